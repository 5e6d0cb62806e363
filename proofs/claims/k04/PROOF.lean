import PyProof.Rows.All
import Wide.All
import OpenK.AllK
import Wide.FinOn
import Lean
import PyProof.EqAt
import PyProof.EqKinds
import PyProof.TupleCall
import PySem.Challenge.RW_leafhouse_k04_bodies_and_texts
set_option Elab.async false
set_option linter.all false
set_option maxRecDepth 100000
set_option maxHeartbeats 8000000
noncomputable section
namespace PySem.W.Fast
def tw1929339734690831257:=0
def tw9905569224486016535:=0
def tw13236247095329134868:=0
def tw4219319940506654113:=0
def tw16284062919274449604:=0
def tw15231994286561741420:=0
def tw7000736179604514552:=0
def tw5465056863882348194:=0
def tw16018416893524768327:=0
def tw1380241170995409974:=0
def tw2372387576568671740:=0
def tw16134343494563625929:=0
def tw3989629485063984304:=0
def tw18172713995491130237:=0
def tw17789702519964564292:=0
def tw6835544091233250145:=0
def tw13775865750632941497:=0
def tw9416040386415657331:=0
def tw9228244811481708492:=0
def tw18268978819036229316:=0
def tw7871690134984511905:=0
def tw2200377080404604554:=0
def tw15033371958026951408:=0
def tw488782649222928104:=0
def tw14207945192302246739:=0
def tw11052435172249244420:=0
def tw964065392222414876:=0
def tw533002972054167693:=0
def tw12036450766112502752:=0
def tw11413434635003145094:=0
def tw15547045643932550535:=0
def tw6420123879080388778:=0
def tw4482502469091424555:=0
def tw14447946113868621412:=0
def tw13357070384946270440:=0
def tw5670750041999449713:=0
def tw4486609362734576177:=0
def tw2339306067494879958:=0
def tw9052060912678755348:=0
def tw2477551999456333181:=0
def tw7014570817050158076:=0
def tw14640987106440923127:=0
def tw8224785432500042847:=0
def tw14484393603594585432:=0
def tw16318880976197263672:=0
def tw10468223396536482025:=0
def tw9141379255163978096:=0
def tw2786286166790104463:=0
def tw1230785902979828170:=0
def tw8475040139435875252:=0
def tw15664011719399234579:=0
def tw11342588281587442441:=0
def tw16286628080799929573:=0
def tw15259908900986215769:=0
def tw1571644672060351594:=0
def tw2046801524755383055:=0
def tw16756222825101607621:=0
def tw15164757653719050972:=0
def tw12634323416372086702:=0
def tw4770524004278151920:=0
def tw12611868306361901786:=0
def tw17688403603320626010:=0
def tw6141439034465519597:=0
def tw14234949099860358909:=0
def tw13029535532112437485:=0
def tw9927019365535059019:=0
def tw14366385286983536002:=0
def tw9099336592844176470:=0
def tw12534803604745846950:=0
def tw14066509592002315564:=0
def tw5072071460474909565:=0
def tw10692768438613878447:=0
def tw4431161791581942346:=0
def tw7973022767932488816:=0
def tw4846125597223296900:=0
def tw1635665344242676986:=0
def tw5735719267324441476:=0
def tw1468052427820057290:=0
def tw11212915524631222141:=0
def tw13466030733593419964:=0
def tw8383907314750409802:=0
def tw3114443433332525936:=0
def tw17221809653942020393:=0
def tw1335008874103171701:=0
def tw5597535916995207738:=0
def tw2943133636322390152:=0
def tw16944754291887775823:=0
def tw8731967491157930710:=0
def tw6466621145773505135:=0
def tw1459625582532382812:=0
def tw17832832913435454906:=0
def tw13528008723790573140:=0
def tw15182581042249395989:=0
def tw10653867797370971621:=0
def tw4413139393126886436:=0
def tw13151516232277741950:=0
def tw7916931099953126395:=0
def tw13714851431162006814:=0
def tw18226238275929296889:=0
def tw16184136615769772943:=0
def tw14185395202841540533:=0
def tw1365529955348434288:=0
def tw2802599189772456902:=0
def tw12120971926326439576:=0
def tw6931394537496894767:=0
def tw8856548519609089453:=0
def tw686743776286519588:=0
def tw17967206557364651762:=0
def tw5355176451537962519:=0
def tw12103760263055425365:=0
def tw14406138484770477699:=0
def tw15495933123768194414:=0
def tw13661095681160289495:=0
def tw14219979297452410178:=0
def tw709601945230984196:=0
def tw4767504555869252076:=0
def tw6994427974163101125:=0
def tw11543429979564869481:=0
def tw3736788556150560129:=0
def tw11726805891897151367:=0
def tw996394419710422155:=0
def tw3772954090017985901:=0
def tw13062393110636460362:=0
def tw8356347087729567242:=0
def tw17906190475313209205:=0
def tw3736001951347898896:=0
def tw2421650908573756751:=0
def tw9420811180735228376:=0
def tw509758198567917768:=0
def tw7242500827059770720:=0
def tw11628969671539345588:=0
def tw11573774143591212077:=0
def tw13095361718687613129:=0
def tw890147042582737119:=0
def tw2666448473044126874:=0
def tw12152645893401641345:=0
def tw2264491359700398255:=0
def tw11772319394376902353:=0
def tw78723604822547632:=0
def tw5647179187406951424:=0
def tw15023673874238636068:=0
def tw18212703153317171686:=0
def tw6929452323873316597:=0
def tw16793040711138678612:=0
def tw6703175035713868469:=0
def tw12046657546117453911:=0
def tw17745914069237994829:=0
def tw1570381153607184175:=0
def tw17101906545964938942:=0
def tw6909454067632785019:=0
def tw2297160647768194957:=0
def tw2269761074001906230:=0
def tw1545276366672210725:=0
def tw13401752520152840626:=0
def tw17312657709073920967:=0
def tw11066220103002792894:=0
def tw5346828498629967968:=0
def tw10491846208925239210:=0
def tw9523454634183372798:=0
def tw1961648682080866827:=0
def tw16417338884321860719:=0
def tw3628362408356889332:=0
def tw6025912227566704059:=0
def tw10970734858222543526:=0
def tw14712659838698515671:=0
def tw1003500355616902706:=0
def tw13439752846409966158:=0
def tw8234279028122054051:=0
def tw10611476520310520019:=0
def tw15159216405178682566:=0
def tw14383494482824998609:=0
def tw9898302879401983273:=0
def tw386969052436718495:=0
def tw156978936883935724:=0
def tw11503916974864702493:=0
def tw2381653206614381681:=0
def tw17331903666446166052:=0
def tw5829633477602721122:=0
def tw7805445544305026329:=0
def tw13291811096472784581:=0
end PySem.W.Fast
namespace L2
open PySem PySem.Spec PyProof.Rows
abbrev Key:=Sum Int Str
def Qy:Key->Value->Bool
 |.inl k,v=>Value.isInt k v
 |.inr x,v=>Value.isStrOf x v
def Bbj (w:World):Key->Int
 |.inl k=>hashInt k
 |.inr x=>hashStr w x
theorem Dn:∀{k:Key} {v:Value},Qy k v=true->(∃i t,k=Sum.inl i∧v=Value.int i t)∨(∃x t,k=Sum.inr x∧v=Value.str x t)
 |.inl i,v,h=>by
  obtain⟨t,e⟩:=Value.isInt_shape (k:=i) (v:=v) h
  exact .inl ⟨i,t,rfl,e⟩
 |.inr x,v,h=>by
  obtain⟨t,e⟩:=Value.isStrOf_shape (x:=x) (v:=v) h
  exact .inr ⟨x,t,rfl,e⟩
theorem Ait (i:Int) (t:Tok):Qy (.inl i) (.int i t)=true:=by simp[Qy,Value.isInt]
theorem Aiu (x:Str) (t:Tok):Qy (.inr x) (.str x t)=true:=by simp[Qy,Value.isStrOf]
theorem Aui (a b:Int):decide ((Sum.inl a:Key)=Sum.inl b)=(a==b):=by
 by_cases e:a=b
 .subst e;simp
 .have h:¬ (Sum.inl a:Key)=Sum.inl b:=fun q=>e (Sum.inl.inj q)
  rw[decide_eq_false h]
  exact(beq_eq_false_iff_ne.mpr e).symm
theorem Auj (a b:Str):decide ((Sum.inr a:Key)=Sum.inr b)=decide (a=b):=by
 by_cases e:a=b
 .subst e;simp
 .have h:¬ (Sum.inr a:Key)=Sum.inr b:=fun q=>e (Sum.inr.inj q)
  rw[decide_eq_false h,decide_eq_false e]
theorem Auk (a:Int) (b:Str):decide ((Sum.inl a:Key)=Sum.inr b)=false:=decide_eq_false (fun q=>nomatch q)
theorem Aul (a:Str) (b:Int):decide ((Sum.inr a:Key)=Sum.inl b)=false:=decide_eq_false (fun q=>nomatch q)
def Ek (prog:Program) (w:World):PySem.KeyKind prog w Key where
 is:=Qy
 hash:=Bbj w
 inj:=fun v a b ha hb=>by
  rcases Dn ha with ⟨i,t,rfl,rfl⟩|⟨x,t,rfl,rfl⟩
  .rcases Dn hb with ⟨j,u,rfl,e⟩|⟨y,u,rfl,e⟩
   .injection e with e1 _;rw[e1]
   .exact nomatch e
  .rcases Dn hb with ⟨j,u,rfl,e⟩|⟨y,u,rfl,e⟩
   .exact nomatch e
   .injection e with e1 _;rw[e1]
 byValue:=fun k v h=>by
  rcases Dn h with ⟨i,t,rfl,rfl⟩|⟨x,t,rfl,rfl⟩ <;> rfl
 pyHash:=fun hv h=>by
  rcases Dn hv with ⟨i,t,rfl,rfl⟩|⟨x,t,rfl,rfl⟩
  .exact wpAny_pyHash_int h
  .exact wpAny_pyHash_str h
 eqBool:=fun hu hv h=>by
  rcases Dn hu with ⟨i,t,rfl,rfl⟩|⟨x,t,rfl,rfl⟩
  .rcases Dn hv with ⟨j,u,rfl,rfl⟩|⟨y,u,rfl,rfl⟩
   .rw[Aui] at h;exact wpAny_eqBool_int h
   .rw[Auk] at h;exact SeqAt.EqAt.int_str i t y u _ _ _ _ h
  .rcases Dn hv with ⟨j,u,rfl,rfl⟩|⟨y,u,rfl,rfl⟩
   .rw[Aul] at h;exact SeqAt.EqAt.str_int x t j u _ _ _ _ h
   .rw[Auj] at h;exact wpAny_eqBool_str h
 «strs»:=fun k x t v h=>by
  rcases Dn h with ⟨i,u,rfl,e⟩|⟨y,u,rfl,e⟩
  .exact nomatch e
  .injection e with e1 _
   subst e1
   cases v <;> rfl
theorem Acn (prog:Program) (w:World) (i:Int) (t:Tok):(Ek prog w).is (.inl i) (.int i t)=true:=Ait i t
theorem Aco (prog:Program) (w:World) (x:Str) (t:Tok):(Ek prog w).is (.inr x) (.str x t)=true:=Aiu x t
inductive V where
 |non|bl (b:Bool)|int (i:Int)|str (x:Str)|byt (b:Array UInt8)|flt (b:UInt64)|ref (a:Addr)|ty (n:String)
 deriving DecidableEq
def RelV:V->Value->Prop
 |.non,u=>u=Value.none
 |.bl b,u=>u=Value.bool b
 |.int i,u=>∃t,u=Value.int i t
 |.str x,u=>∃t,u=Value.str x t
 |.byt b,u=>∃t,u=Value.bytes b t
 |.flt b,u=>∃t,u=Value.float b t
 |.ref a,u=>u=Value.ref a
 |.ty n,u=>u=Value.type n
abbrev Vals:List V->List Value->Prop:=Paired RelV
theorem Vals.length {xs:List V} {us:List Value} (r:Vals xs us):xs.length=us.length:=Paired.length r
theorem Vals.get:∀{xs:List V} {us:List Value} {i:Nat} {x:V},Vals xs us->xs[i]?=some x->∃u,us[i]?=some u∧RelV x u
 |_,_,_,_,.nil,e=>by simp at e
 |_,_,0,_,.cons r _,e=>by simp at e;subst e;exact⟨_,rfl,r⟩
 |_,_,i+1,x,.cons _ t,e=>by
  obtain⟨u,h1,h2⟩:=Vals.get (i:=i) (x:=x) t (by simpa using e)
  exact⟨u,by simpa using h1,h2⟩
theorem Vals.set {x:V} {u:Value} (r:RelV x u):∀{xs:List V} {us:List Value} (i:Nat),Vals xs us->Vals (xs.set i x) (us.set i u)
 |_,_,_,.nil=>.nil
 |_,_,0,.cons _ t=>.cons r t
 |_,_,i+1,.cons q t=>.cons q (Vals.set r i t)
theorem Vals.append:∀{xs ys:List V} {us ws:List Value},Vals xs us->Vals ys ws->Vals (xs ++ ys) (us ++ ws)
 |_,_,_,_,.nil,s=>s
 |_,_,_,_,.cons r t,s=>.cons r (Vals.append t s)
theorem Vals.take:∀{xs:List V} {us:List Value} (n:Nat),Vals xs us->Vals (xs.take n) (us.take n)
 |_,_,0,_=>.nil
 |_,_,_+1,.nil=>.nil
 |_,_,n+1,.cons r t=>.cons r (Vals.take n t)
theorem Vals.drop:∀{xs:List V} {us:List Value} (n:Nat),Vals xs us->Vals (xs.drop n) (us.drop n)
 |_,_,0,r=>r
 |_,_,_+1,.nil=>.nil
 |_,_,n+1,.cons _ t=>Vals.drop n t
def V2:Option V->Option Value->Prop
 |some v,some u=>RelV v u
 |none,none=>True
 |_,_=>False
def KV {κ:Type}:List (κ×V)->List (κ×Value)->Prop:=Paired fun(p:κ×V) (q:κ×Value)=>p.1=q.1∧RelV p.2 q.2
def kV:Key->V
 |.inl i=>.int i
 |.inr x=>.str x
inductive HO where
 |lst (xs:List V)
 |tup (xs:List V)
 |dK (kvs:List (Key×V))|dT (kvs:List (List Key×V))
 |set (S:Int->Bool) (n:Nat)
 |ins (C dx:Addr) (fs:List (Str×V))
 |own (x:Addr)
 |xd (fs:List (Str×V))
 |met (f x:Addr)
 |rng (lo hi:Int)
 |frz (o:Obj) (u:HO)
 |tbl (ps:Array Value)
 |ext (φ:Heap->Prop)
abbrev Hp:=Addr->Option HO
def upd (H:Hp) (a:Addr) (o:HO):Hp:=fun b=>if b=a then some o else H b
theorem Bo {H:Hp} {a:Addr} {o:HO}:upd H a o a=some o:=by unfold upd;rw[if_pos rfl]
theorem Bb {H:Hp} {a b:Addr} {o:HO} (h:b≠a):upd H a o b=H b:=by unfold upd;rw[if_neg h]
theorem Ao3 {H:Hp} {a:Addr} {o u:HO}:upd (upd H a o) a u=upd H a u:=by
 funext b;unfold upd;split <;> rfl
theorem Ayc {H:Hp} {a b:Addr} {o u:HO} (h:H a=some o) (h':H b=some u) (d:o≠u):a≠b:=by
 intro e;subst e;rw[h] at h';exact d (Option.some.inj h')
theorem Bt {H:Hp} {a b:Addr} {o:HO} (h:H a=some o) (h':H b=none):a≠b:=by
 intro e;subst e;rw[h] at h';cases h'
section
variable (P:Program) (w:World)
def Dc (H:Hp) (h:Heap) (a:Addr):HO->Prop
 |.lst xs=>xs.length≤sizeLine∧∃(its:List Value) (n:Nat),Vals xs its∧h.get? a=some { cls:=.type "list",data:=.seq its.toArray n }
 |.tup xs=>xs.length≤sizeLine∧∃its:List Value,Vals xs its∧IsTup h a its.toArray
 |.dK kvs=>kvs.length≤sizeLine∧(a==sysModules)=false∧∃vs,KV kvs vs∧h.DictOf (Ek P w) a vs
 |.dT kvs=>kvs.length≤sizeLine∧(a==sysModules)=false∧∃xs:List (List Key×Addr×Value),
   Paired (fun(p:List Key×V) (q:List Key×Addr×Value)=>p.1=q.1∧H q.2.1=some (.tup (p.1.map kV))∧RelV p.2 q.2.2) kvs xs∧
   ∃o es ep,h.get? a=some o∧o.ExactDict∧o.data=.dict es ep∧es.toList=xs.map (entryOfKey (tupleKind (Ek P w)))∧(xs.map (·.1)).Nodup
 |.set S n=>h.SetOf (intKind P w) a S n
 |.ins C dx fs=>H dx=some (.own a)∧fs.length≤1000∧dx≠a∧h.get? a=some (PySem.W.instObj C dx)∧
   ∃mA,h.Ns1 dx mA∧(∀f,V2 (fs.lookup f) (mA f))∧PySem.Within mA (fs.map (·.1))
 |.own _=>∃o,h.get? a=some o
 |.xd fs=>∃mA,h.Ns1 a mA∧∀f,V2 (fs.lookup f) (mA f)
 |.rng lo hi=>∃t u v,h.get? a=some { cls:=.type "range",data:=.fields #[.int lo t,.int hi u,.int 1 v] }
 |.frz o u=>h.get? a=some o∧Dc H h a u
 |.tbl ps=>h.get? a=some { cls:=.none,data:=.fields ps }
 |.met f x=>h.get? a=some (PySem.W.methodObj (.ref f) (.ref x))
 |.ext φ=>φ h∧(∃o,h.get? a=some o)∧∀h1 h2:Heap,φ h1->(∀o,h1.get? a=some o->h2.get? a=some o)->φ h2
def HOk (H:Hp) (h:Heap):Prop:=∀a o,H a=some o->Dc P w H h a o
end
section
variable {P:Program} {w:World} {H H':Hp} {h h':Heap} {a:Addr} {o:HO}
theorem Dc.lt (x:Dc P w H h a o):a < h.objs.size:=by
 cases o with
 |lst xs=>obtain⟨_,_,_,_,e⟩:=x;exact Heap.lt_size e
 |tup xs=>obtain⟨_,_,_,p⟩:=x;exact p.lt
 |dK kvs=>obtain⟨_,_,_,_,o,_,_,e,_⟩:=x;exact Heap.lt_size e
 |dT kvs=>obtain⟨_,_,_,_,o,_,_,e,_⟩:=x;exact Heap.lt_size e
 |set S n=>obtain⟨o,_,_,_,e,_⟩:=x;exact Heap.lt_size e
 |ins C dx fs=>obtain⟨_,_,_,e,_⟩:=x;exact Heap.lt_size e
 |own y=>obtain⟨_,e⟩:=x;exact Heap.lt_size e
 |xd fs=>obtain⟨_,⟨_,_,_,e,_⟩,_⟩:=x;exact Heap.lt_size e
 |rng lo hi=>obtain⟨_,_,_,e⟩:=x;exact Heap.lt_size e
 |frz ob u=>obtain⟨e,_⟩:=x;exact Heap.lt_size e
 |tbl ps=>exact Heap.lt_size (show h.get? a=some _ from x)
 |met f y=>exact Heap.lt_size (show h.get? a=some _ from x)
 |ext φ=>obtain⟨_,⟨_,e⟩,_⟩:=x;exact Heap.lt_size e
theorem Paired.mapP {α β:Type} {F G:α->β->Prop}:∀{l₁:List α} {l₂:List β},Paired F l₁ l₂->(∀a b,F a b->G a b)->Paired G l₁ l₂
 |_,_,.nil,_=>.nil
 |_,_,.cons r t,f=>.cons (f _ _ r) (Paired.mapP t f)
theorem Dc.stay (x:Dc P w H h a o) (k:∀b u,(b=a∨H b=some (.own a))->h.get? b=some u->h'.get? b=some u)
  (ho:∀b,H b=some (.own a)->H' b=some (.own a)) (ht:∀b xs,H b=some (.tup xs)->H' b=some (.tup xs)):Dc P w H' h' a o:=by
 induction o with
 |lst xs=>obtain⟨z,its,n,r,e⟩:=x;exact⟨z,its,n,r,k _ _ (.inl rfl) e⟩
 |tup xs=>obtain⟨z,its,r,ob,e,c⟩:=x;exact⟨z,its,r,ob,k _ _ (.inl rfl) e,c⟩
 |dK kvs=>obtain⟨z,y,vs,r,ob,es,ep,e,c⟩:=x;exact⟨z,y,vs,r,ob,es,ep,k _ _ (.inl rfl) e,c⟩
 |dT kvs=>
  obtain⟨z,y,xs,r,ob,es,ep,e,c⟩:=x
  exact⟨z,y,xs,Paired.mapP r fun p q z=>⟨z.1,ht _ _ z.2.1,z.2.2⟩,ob,es,ep,k _ _ (.inl rfl) e,c⟩
 |set S n=>obtain⟨ob,es,ep,t,e,c⟩:=x;exact⟨ob,es,ep,t,k _ _ (.inl rfl) e,c⟩
 |ins C dx fs=>
  obtain⟨d,z,ne,e,mA,⟨od,es,ep,e2,c⟩,r⟩:=x
  exact⟨ho _ d,z,ne,k _ _ (.inl rfl) e,mA,⟨od,es,ep,k _ _ (.inr d) e2,c⟩,r⟩
 |own y=>obtain⟨ob,e⟩:=x;exact⟨ob,k _ _ (.inl rfl) e⟩
 |xd fs=>obtain⟨mA,⟨od,es,ep,e,c⟩,r⟩:=x;exact⟨mA,⟨od,es,ep,k _ _ (.inl rfl) e,c⟩,r⟩
 |rng lo hi=>obtain⟨t,u,v,e⟩:=x;exact⟨t,u,v,k _ _ (.inl rfl) e⟩
 |frz ob u ih=>obtain⟨e,q⟩:=x;exact⟨k _ _ (.inl rfl) e,ih q⟩
 |tbl ps=>
  have e:h.get? a=some { cls:=.none,data:=.fields ps }:=x
  show h'.get? a=some { cls:=.none,data:=.fields ps }
  exact k a _ (.inl rfl) e
 |met f y=>
  have e:h.get? a=some (PySem.W.methodObj (.ref f) (.ref y)):=x
  show h'.get? a=some (PySem.W.methodObj (.ref f) (.ref y))
  exact k a _ (.inl rfl) e
 |ext φ=>obtain⟨p,⟨o,e⟩,st⟩:=x;exact⟨st _ _ p fun o q=>k _ _ (.inl rfl) q,⟨o,k _ _ (.inl rfl) e⟩,st⟩
theorem HOk.lt (x:HOk P w H h) (e:H a=some o):a < h.objs.size:=(x a o e).lt
theorem HOk.fresh (x:HOk P w H h) (e:h.objs.size≤a):H a=none:=by
 cases q:H a with
 |none=>rfl
 |some u=>exact absurd (Nat.lt_of_lt_of_le (x.lt q) e) (Nat.lt_irrefl _)
theorem HOk.kept (x:HOk P w H h) (k:∀b u,h.get? b=some u->h'.get? b=some u):HOk P w H h':=fun a o e=>
 (x a o e).stay (fun b u _ q=>k b u q) (fun _ q=>q) fun _ _ q=>q
theorem HOk.laid (x:HOk P w H h) (k:∀b u,h.get? b=some u->h'.get? b=some u) (hp:h.objs.size≤a) (new:Dc P w (upd H a o) h' a o):HOk P w (upd H a o) h':=fun b u e=>by
 have hn:=x.fresh hp
 by_cases hb:b=a
 .subst hb;rw[Bo] at e;cases e;exact new
 .rw[Bb hb] at e
  exact(x b u e).stay (fun c v _ q=>k c v q) (fun c q=>by rw[Bb (Bt q hn)];exact q) fun c xs q=>by rw[Bb (Bt q hn)];exact q
end
def Rd (H:Hp) (a:Addr) (u:HO):Prop:=H a=some u∨∃o,H a=some (.frz o u)
theorem Rd.of {H:Hp} {a:Addr} {u:HO} (h:H a=some u):Rd H a u:=.inl h
theorem Rd.ok {P:Program} {w:World} {H:Hp} {h:Heap} {a:Addr} {u:HO} (r:Rd H a u) (x:HOk P w H h):Dc P w H h a u:=by
 rcases r with r|⟨o,r⟩
 .exact x a u r
 .obtain⟨_,q⟩:=x a _ r
  exact q
def Mut:Option HO->Prop
 |some (.lst _)=>True
 |some (.dK _)=>True
 |some (.dT _)=>True
 |some (.set _ _)=>True
 |some (.ins _ _ _)=>True
 |some (.ext _)=>True
 |_=>False
section
variable {P:Program} {w:World} {H:Hp} {h h':Heap} {x e:Addr} {o':HO}
theorem HOk.write (ok:HOk P w H h) (mu:Mut (H x)) (he:e=x∨H e=some (.own x)) (k:∀b u,b≠e->h.get? b=some u->h'.get? b=some u) (heo:∃u,h'.get? e=some u)
  (new:Dc P w (upd H x o') h' x o'):HOk P w (upd H x o') h':=fun b u q=>by
 have nown:∀c y,H c=some (.own y)->c≠x:=fun c y r z=>by subst z;rw[r] at mu;exact mu
 have ntup:∀c xs,H c=some (.tup xs)->c≠x:=fun c xs r z=>by subst z;rw[r] at mu;exact mu
 by_cases hb:b=x
 .subst hb;rw[Bo] at q;cases q;exact new
 .rw[Bb hb] at q
  by_cases hbe:b=e
  .have q':H b=some (.own x):=by
    rcases he with z|z
    .exact absurd (hbe.trans z) hb
    .rw[hbe];exact z
   rw[q] at q';cases q'
   obtain⟨v,hv⟩:=heo
   exact⟨v,by rw[hbe];exact hv⟩
  .refine(ok b u q).stay (fun c v hc r=>k c v ?_ r) (fun c r=>by rw[Bb (nown c b r)];exact r) fun c xs r=>by rw[Bb (ntup c xs r)];exact r
   rcases hc with rfl|hc
   .exact hbe
   .rintro rfl
    rcases he with z|z
    .exact nown c b hc z
    .rw[hc] at z;cases z;exact hb rfl
end
structure Un (fs ex:List Addr) (H H':Hp) (h h':Heap):Prop where
 keep:∀b o,h.get? b=some o->H b=none->b∉fs->b∉ex->h'.get? b=some o
 slot:∀b o,h.get? b=some o->H b=none->b∈fs->b∉ex->∃sl,h'.get? b=some { o with slots:=sl }
 free:∀b o,h.get? b=some o->H b=none->b∉ex->H' b=none
 there:∀b o,h.get? b=some o->b∉ex->∃o',h'.get? b=some o'
 tups:∀b xs,H b=some (.tup xs)->H' b=some (.tup xs)
 frzs:∀b o u,H b=some (.frz o u)->H' b=some (.frz o u)
 tbls:∀b ps,H b=some (.tbl ps)->∃more,H' b=some (.tbl (ps ++ more))
section
variable {fs fs' ex ex':List Addr} {H H1 H2:Hp} {h h1 h2 h':Heap} {a x e:Addr} {o:HO}
theorem Un.any (u:Un fs ex H H1 h h1) {b:Addr} {ob:Obj} (q:h.get? b=some ob) (n:H b=none) (hx:b∉ex):∃sl,h1.get? b=some { ob with slots:=sl }:=by
 by_cases hb:b∈fs
 .exact u.slot b ob q n hb hx
 .exact⟨ob.slots,u.keep b ob q n hb hx⟩
theorem Un.kept (k:∀b u,h.get? b=some u->h'.get? b=some u):Un fs ex H H h h':=
 ⟨fun b ob q _ _ _=>k b ob q,fun b ob q _ _ _=>⟨ob.slots,k b ob q⟩,fun _ _ _ n _=>n,fun b ob q _=>⟨ob,k b ob q⟩,fun _ _ q=>q,fun _ _ _ q=>q,fun _ ps q=>⟨#[],by rw[q];simp⟩⟩
theorem Un.refl:Un fs ex H H h h:=Un.kept fun _ _ q=>q
theorem Un.laid (k:∀b u,h.get? b=some u->h'.get? b=some u) (hp:h.objs.size≤a) (hn:H a=none):Un fs ex H (upd H a o) h h' where
 keep:=fun b u q _ _ _=>k b u q
 slot:=fun b u q _ _ _=>⟨u.slots,k b u q⟩
 free:=fun b u q n _=>by rw[Bb (Nat.ne_of_lt (Nat.lt_of_lt_of_le (Heap.lt_size q) hp))];exact n
 there:=fun b u q _=>⟨u,k b u q⟩
 tups:=fun b xs q=>by rw[Bb (Bt q hn)];exact q
 frzs:=fun b u xs q=>by rw[Bb (Bt q hn)];exact q
 tbls:=fun b ps q=>⟨#[],by rw[Bb (Bt q hn),q];simp⟩
theorem Un.write (mu:Mut (H x)) (he:e=x∨H e=some (.own x)) (k:∀b u,b≠e->h.get? b=some u->h'.get? b=some u) (heo:∃u,h'.get? e=some u):Un fs ex H (upd H x o) h h':=by
 have hx:∀b,H b=none->b≠x:=fun b n z=>by subst z;rw[n] at mu;exact mu
 have hb:∀b,H b=none->b≠e:=fun b n z=>by
  subst z
  rcases he with r|r
  .exact hx b n r
  .rw[n] at r;cases r
 have hm:∀b u,H b=some u->¬ Mut (some u)->b≠x:=fun b u q nm z=>by subst z;rw[q] at mu;exact nm mu
 refine⟨fun b u q n _ _=>k b u (hb b n) q,fun b u q n _ _=>⟨u.slots,k b u (hb b n) q⟩,fun b u q n _=>by rw[Bb (hx b n)];exact n,fun b u q _=>?_,
  fun b xs q=>by rw[Bb (hm b _ q fun z=>z)];exact q,fun b u xs q=>by rw[Bb (hm b _ q fun z=>z)];exact q,fun b ps q=>⟨#[],by rw[Bb (hm b _ q fun z=>z),q];simp⟩⟩
 by_cases hbe:b=e
 .subst hbe;exact heo
 .exact⟨u,k b u hbe q⟩
end
def trk (h:Heap) (H:Hp):List Addr:=(List.range h.objs.size).filter fun a=>(H a).isSome
def Aal (h:Heap) (H:Hp):Heap:=PySem.W.hideAll h (trk h H)
theorem Aiv (h:Heap) (H:Hp):(Aal h H).objs.size=h.objs.size:=PySem.W.hideAll_size _ _
theorem Ak4 {h:Heap} {H:Hp} {b:Addr} {o:Obj} (e:h.get? b=some o) (n:H b=none):(Aal h H).get? b=some o:=
 PySem.W.hideAll_get _ e fun hm=>by
  have q:(H b).isSome=true:=(List.mem_filter.mp hm).2
  rw[n] at q;simp at q
theorem Ao4 {h:Heap} {H:Hp} {b:Addr} {o:Obj} (e:(Aal h H).get? b=some o):h.get? b=some o∧H b=none:=by
 have e':h.get? b=some o:=PySem.W.of_hideAll (trk h H) e
 refine⟨e',?_⟩
 cases q:H b with
 |none=>rfl
 |some x=>
  have hm:b∈trk h H:=List.mem_filter.mpr ⟨List.mem_range.mpr (Heap.lt_size e'),by simp[q]⟩
  have z:(Aal h H).get? b=none:=PySem.W.hideAll_none (trk h H) hm
  rw[z] at e;cases e
def Ao5 (g h:Heap) (L:Addr):List (Addr×Obj):=(List.range h.objs.size).filterMap fun a=>if a=L∨(g.get? a).isSome=true then none else (h.get? a).map fun o=>(a,o)
def rest (g h:Heap) (L d:Addr):List (Addr×Obj):=(Ao5 g h L).filter fun p=>decide (p.1≠d)
structure Mod (K:PySem.W.Frag) (mg:Str->Option Value) (base:Heap):Prop where
 kin:K.In base
 glob:base.Ns mainGlobals mg
 blt:∃mb,base.Ns builtinsNs mb∧∀x:Str,x≠"__name__"->mb x=bootBuiltins x
 nolimit:base.NoLimit
structure Cx where
 prog:Program
 w:World
 K:PySem.W.Frag
 mg:Str->Option Value
 base:Heap
 A:Around
 N:List Str
 s₀:Shared
 H₀:Hp
 env:Env
 outer:List Env
 stack:List Env
 ex:List Addr
 fn:Str->Bool
 calm:Bool
 pn:List (Addr×Obj)
 xe:Value->Shared->Prop
def frs (l:List Env):List Addr:=l.filterMap (·.frame)
abbrev Cx.fs (X:Cx):List Addr:=frs X.outer
def Vis (sc:Scope) (x:Str):Prop:=sc.names.lookup x=some .local∨sc.names.lookup x=some .cell∨sc.names.lookup x=some .free
def Loc (sc:Scope) (x:Str):Prop:=sc.names.lookup x=some .local∨sc.names.lookup x=some .cell
def Look (env:Env) (h:Heap) (m:Str->Option Value) (x:Str) (u:Value):Prop:=
 (env.kindOf x=some .local∧m x=some u)∨((env.kindOf x=some .cell∨env.kindOf x=some .free)∧∃c,env.cells.lookup x=some c∧h.IsCell c (some u))
structure Cx.Ok (X:Cx):Prop where
 mod:Mod X.K X.mg X.base
 kind:X.env.scope.kind=.function
 glob:X.env.globals=mainGlobals
 blt:X.env.builtins=builtinsNs
 above:X.s₀.heap.objs.size≤X.env.locals
 inj:∀x y c,X.env.cells.lookup x=some c->X.env.cells.lookup y=some c->x=y
 has:∀x,(X.env.kindOf x=some .cell∨X.env.kindOf x=some .free)->∃c,X.env.cells.lookup x=some c
 cab:∀x c,X.fn x=true->X.env.cells.lookup x=some c->X.s₀.heap.objs.size≤c
 hd:X.calm=true->X.A.handled=none
 frames:X.A.frames=some X.stack
 stk:X.stack=X.outer∨(X.stack=X.env::X.outer∧X.env.frame=some X.env.locals)
 exf:∀b∈X.ex,b≠X.env.locals∧∀x c,X.env.cells.lookup x=some c->c≠b
 bs:∀b o,X.base.get? b=some o->X.s₀.heap.get? b=some o∧X.H₀ b=none
 bsz:X.base.objs.size≤X.s₀.heap.objs.size
 noex:∀b o,X.base.get? b=some o->b∉X.ex
 exfs:∀b∈X.ex,b∉X.fs
 funs:X.s₀.heap.FunFrames X.base X.outer
 frf:∀b∈X.fs,X.H₀ b=none
structure Inv (X:Cx) (pins:List (Addr×Obj)) (σ:List (Option V)) (H:Hp) (s:Shared):Prop where
 ok:X.Ok
 os:s.os=X.s₀.os
 bare:AllBare s.gens
 base:Un X.fs X.ex X.H₀ H X.s₀.heap s.heap
 loc:∃m,s.heap.Ns X.env.locals m∧∀(i:Nat) (x:Str) (v:V),X.N[i]?=some x->σ[i]?=some (some v)->Vis X.env.scope x->∃u,RelV v u∧Look X.env s.heap m x u
 cell:∀x c,X.env.cells.lookup x=some c->∃v,s.heap.IsCell c v
 free:H X.env.locals=none
 freeC:∀x c,X.env.cells.lookup x=some c->H c=none
 pin:∀p∈X.pn ++ pins,s.heap.get? p.1=some p.2∧H p.1=none∧p.1≠X.env.locals∧p.1∉X.fs∧∀v,p.2.data≠.cell v
 hok:HOk X.prog X.w H s.heap
 len:σ.length=X.N.length
section
variable {X:Cx} {pins:List (Addr×Obj)} {σ:List (Option V)} {H H':Hp} {s:Shared} {h':Heap}
theorem Cx.Ok.nofr (ok:X.Ok) {b:Addr} {o:Obj} (e:X.base.get? b=some o):b∉X.fs:=fun hb=>by
 have:=(ok.funs.mem hb).1
 rw[e] at this;cases this
theorem Inv.bs (I:Inv X pins σ H s):∀b o,X.base.get? b=some o->s.heap.get? b=some o∧H b=none:=fun b o e=>
 ⟨I.base.keep b o (I.ok.bs b o e).1 (I.ok.bs b o e).2 (I.ok.nofr e) (I.ok.noex b o e),I.base.free b o (I.ok.bs b o e).1 (I.ok.bs b o e).2 (I.ok.noex b o e)⟩
theorem Inv.bk (I:Inv X pins σ H s):∀b o,X.base.get? b=some o->s.heap.get? b=some o:=fun b o e=>(I.bs b o e).1
theorem Inv.mod (I:Inv X pins σ H s):Mod X.K X.mg X.base:=I.ok.mod
theorem Inv.kIn (I:Inv X pins σ H s):X.K.In s.heap:=I.ok.mod.kin.keeps I.bk
theorem Inv.lt (I:Inv X pins σ H s):X.env.locals < s.heap.objs.size:=let ⟨_,hn,_⟩:=I.loc;hn.lt
theorem Inv.sz (I:Inv X pins σ H s):X.s₀.heap.objs.size≤s.heap.objs.size:=Nat.le_trans I.ok.above (Nat.le_of_lt I.lt)
theorem Inv.nofs (I:Inv X pins σ H s) {a:Addr} (h:s.heap.objs.size≤a):a∉X.fs:=fun hb=>by
 obtain⟨_,o,ho,_⟩:=I.ok.funs.mem hb
 exact absurd (Nat.lt_of_lt_of_le (Heap.lt_size ho) (Nat.le_trans I.sz h)) (Nat.lt_irrefl _)
theorem Inv.cne (I:Inv X pins σ H s):∀x c,X.env.cells.lookup x=some c->c≠X.env.locals:=fun x c e z=>by
 obtain⟨v,o,ho,hd⟩:=I.cell x c e
 obtain⟨m,⟨o',es,ep,ho',hd',_⟩,_⟩:=I.loc
 rw[z,ho'] at ho;cases ho;rw[hd'] at hd;cases hd
theorem Inv.funs (I:Inv X pins σ H s):s.heap.FunFrames X.base X.outer:=by
 have all:∀(l:List Env),(∀b∈frs l,b∈X.fs)->X.s₀.heap.FunFrames X.base l->s.heap.FunFrames X.base l:=by
  intro l
  induction l with
  |nil=>intro _ _;trivial
  |cons env r ih=>
   intro hs hl
   obtain⟨hk,⟨L,o,hf,hn,ho,hd⟩,hr⟩:=hl
   have hL:L∈X.fs:=hs L (by unfold frs;rw[List.filterMap_cons,hf];exact List.mem_cons_self)
   obtain⟨sl,e⟩:=I.base.slot L o ho (I.ok.frf L hL) hL fun z=>I.ok.exfs L z hL
   exact⟨hk,⟨L,_,hf,hn,e,hd⟩,ih (fun b hb=>hs b (by unfold frs;rw[List.filterMap_cons,hf];exact List.mem_cons_of_mem _ hb)) hr⟩
 exact all X.outer (fun _ hb=>hb) I.ok.funs
theorem Inv.stack (I:Inv X pins σ H s):s.heap.FunFrames X.base X.stack:=by
 rcases I.ok.stk with e|⟨e,hf⟩
 .rw[e];exact I.funs
 .rw[e]
  obtain⟨m,hn,_⟩:=I.loc
  refine .cons (by rw[I.ok.kind];decide) hf hn ?_ I.funs
  exact Heap.get?_none_of_le (Nat.le_trans I.ok.bsz I.ok.above)
theorem Inv.stkSub (I:Inv X pins σ H s):∀b∈frs X.stack,b∈X.env.locals::X.fs:=fun b hb=>by
 rcases I.ok.stk with e|⟨e,hf⟩
 .rw[e] at hb;exact List.mem_cons_of_mem _ hb
 .rw[e] at hb
  unfold frs at hb
  rw[List.filterMap_cons,hf] at hb
  exact hb
theorem Inv.stkFree (I:Inv X pins σ H s):∀b∈frs X.stack,H b=none:=fun b hb=>by
 rcases List.mem_cons.mp (I.stkSub b hb) with e|hb
 .rw[e];exact I.free
 .obtain⟨_,o,ho,_⟩:=I.ok.funs.mem hb
  exact I.base.free b o ho (I.ok.frf b hb) fun z=>I.ok.exfs b z hb
theorem Inv.step {g':Array GenState} {t':Nat} {d':Drawn} {ch:List Addr} (I:Inv X pins σ H s)
  (hch:∀b∈ch,(b∈X.ex∨X.s₀.heap.objs.size≤b)∧b≠X.env.locals∧(∀x c,X.env.cells.lookup x=some c->c≠b)∧∀p∈X.pn ++ pins,p.1≠b)
  (keep:∀b o,b≠X.env.locals->b∉X.fs->b∉ch->s.heap.get? b=some o->H b=none->h'.get? b=some o)
  (slot:∀b o,b≠X.env.locals->b∈X.fs->b∉ch->s.heap.get? b=some o->H b=none->∃sl,h'.get? b=some { o with slots:=sl }) (free:∀b o,b∉ch->s.heap.get? b=some o->H b=none->H' b=none)
  (there:∀b o,b∉ch->s.heap.get? b=some o->∃o',h'.get? b=some o')
  (tups:∀b xs,H b=some (.tup xs)->H' b=some (.tup xs)) (frzs:∀b o u,H b=some (.frz o u)->H' b=some (.frz o u)) (tbls:∀b ps,H b=some (.tbl ps)->∃more,H' b=some (.tbl (ps ++ more)))
  (ns:∀m,s.heap.Ns X.env.locals m->h'.Ns X.env.locals m) (hok:HOk X.prog X.w H' h') (hg:AllBare g') :
  Inv X pins σ H' { s with heap:=h',gens:=g',drawn:=d',toks:=t' }:=by
 have neL:∀b o,X.s₀.heap.get? b=some o->b≠X.env.locals:=fun b o e=>Nat.ne_of_lt (Nat.lt_of_lt_of_le (Heap.lt_size e) I.ok.above)
 have neC:∀b o,X.s₀.heap.get? b=some o->b∉X.ex->b∉ch:=fun b o e hx hb=>by
  rcases(hch b hb).1 with z|z
  .exact hx z
  .exact absurd (Nat.lt_of_lt_of_le (Heap.lt_size e) z) (Nat.lt_irrefl _)
 have cellK:∀x c,X.env.cells.lookup x=some c->∀v,s.heap.IsCell c v->h'.IsCell c v:=fun x c e v ⟨o,ho,hd⟩=>by
  have nch:c∉ch:=fun z=>(hch c z).2.2.1 x c e rfl
  by_cases hc:c∈X.fs
  .obtain⟨sl,q⟩:=slot c o (I.cne x c e) hc nch ho (I.freeC x c e)
   exact⟨_,q,hd⟩
  .exact⟨o,keep c o (I.cne x c e) hc nch ho (I.freeC x c e),hd⟩
 refine⟨I.ok,I.os,hg,⟨fun b o e n hb hx=>?_,fun b o e n hb hx=>?_,fun b o e n hx=>?_,fun b o e hx=>?_,fun b xs e=>tups b xs (I.base.tups b xs e),fun b o xs e=>frzs b o xs (I.base.frzs b o xs e),fun b ps e=>?_⟩,?_,fun x c e=>?_,?_,fun x c e=>?_,fun p hp=>?_,hok,I.len⟩
 .exact keep b o (neL b o e) hb (neC b o e hx) (I.base.keep b o e n hb hx) (I.base.free b o e n hx)
 .obtain⟨sl,e1⟩:=I.base.slot b o e n hb hx
  obtain⟨sl',e2⟩:=slot b _ (neL b o e) hb (neC b o e hx) e1 (I.base.free b o e n hx)
  exact⟨sl',e2⟩
 .obtain⟨o',e1⟩:=I.base.there b o e hx
  exact free b o' (neC b o e hx) e1 (I.base.free b o e n hx)
 .obtain⟨o',e1⟩:=I.base.there b o e hx
  exact there b o' (neC b o e hx) e1
 .obtain⟨m1,e1⟩:=I.base.tbls b ps e
  obtain⟨m2,e2⟩:=tbls b _ e1
  exact⟨m1 ++ m2,by rw[e2,Array.append_assoc]⟩
 .obtain⟨m,hn,hl⟩:=I.loc
  refine⟨m,ns m hn,fun i x v e1 e2 e3=>?_⟩
  obtain⟨u,r,l⟩:=hl i x v e1 e2 e3
  refine⟨u,r,?_⟩
  rcases l with l|⟨k,c,e,z⟩
  .exact .inl l
  .exact .inr ⟨k,c,e,cellK x c e _ z⟩
 .obtain⟨v,z⟩:=I.cell x c e
  exact⟨v,cellK x c e v z⟩
 .obtain⟨m,⟨o,_,_,ho,_⟩,_⟩:=I.loc
  exact free _ o (fun z=>(hch _ z).2.1 rfl) ho I.free
 .obtain⟨v,o,ho,hd⟩:=I.cell x c e
  exact free c o (fun z=>(hch c z).2.2.1 x c e rfl) ho (I.freeC x c e)
 .obtain⟨e,n,ne,nf,d⟩:=I.pin p hp
  have nch:p.1∉ch:=fun z=>(hch p.1 z).2.2.2 p hp rfl
  exact⟨keep p.1 p.2 ne nf nch e n,free p.1 p.2 nch e n,ne,nf,d⟩
theorem Inv.un {t':Nat} (I:Inv X pins σ H s) (u:Un X.fs [] H H' s.heap h') (hok:HOk X.prog X.w H' h'):Inv X pins σ H' { s with heap:=h',toks:=t' }:=by
 obtain⟨m,⟨o,es,ep,ho,r⟩,_⟩:=id I.loc
 obtain⟨sl,hL⟩:=u.any ho I.free (by simp)
 exact I.step (g':=s.gens) (d':=s.drawn) (ch:=[]) (fun _ z=>nomatch z) (fun b o _ hb _ e n=>u.keep b o e n hb (by simp)) (fun b o _ hb _ e n=>u.slot b o e n hb (by simp)) (fun b o _ e n=>u.free b o e n (by simp)) (fun b o _ e=>u.there b o e (by simp)) u.tups u.frzs u.tbls (fun m' hm=>by
  obtain⟨o',es',ep',ho',r'⟩:=hm
  rw[ho] at ho';cases ho'
  exact⟨_,es',ep',hL,r'⟩) hok I.bare
theorem Inv.call {g':Array GenState} {t':Nat} {d':Drawn} {ch:List Addr} (I:Inv X pins σ H s) (u:Un (frs X.stack) ch H H' s.heap h') (hok:HOk X.prog X.w H' h') (hg:AllBare g')
  (hch:∀b∈ch,(b∈X.ex∨X.s₀.heap.objs.size≤b)∧b≠X.env.locals∧(∀x c,X.env.cells.lookup x=some c->c≠b)∧∀p∈X.pn ++ pins,p.1≠b) :
  Inv X pins σ H' { s with heap:=h',gens:=g',drawn:=d',toks:=t' }:=by
 obtain⟨m,⟨o,es,ep,ho,r⟩,_⟩:=id I.loc
 obtain⟨sl,hL⟩:=u.any ho I.free fun z=>(hch _ z).2.1 rfl
 exact I.step (ch:=ch) hch (fun b o hL hb hc e n=>u.keep b o e n (fun z=>(List.mem_cons.mp (I.stkSub b z)).elim hL hb) hc) (fun b o _ _ hc e n=>u.any e n hc) (fun b o hc e n=>u.free b o e n hc) (fun b o hc e=>u.there b o e hc) u.tups u.frzs u.tbls (fun m' hm=>by
  obtain⟨o',es',ep',ho',r'⟩:=hm
  rw[ho] at ho';cases ho'
  exact⟨_,es',ep',hL,r'⟩) hok hg
theorem Inv.turned {t':Nat} {it:Addr} (I:Inv X pins σ H s) (k:∀b o,b≠it->s.heap.get? b=some o->h'.get? b=some o) (hn:H it=none) (hL:it≠X.env.locals)
  (h1:it∈X.ex∨X.s₀.heap.objs.size≤it) (h2:∀x c,X.env.cells.lookup x=some c->c≠it) (h3:∀p∈X.pn ++ pins,p.1≠it):Inv X pins σ H { s with heap:=h',toks:=t' }:=by
 have nit:∀b u,H b=some u->b≠it:=fun b u e z=>by rw[z,hn] at e;cases e
 refine I.step (g':=s.gens) (d':=s.drawn) (ch:=[it]) (fun b hb=>?_) (fun b o _ _ hc e _=>k b o (fun z=>hc (by simp[z])) e) (fun b o _ _ hc e _=>⟨o.slots,k b o (fun z=>hc (by simp[z])) e⟩) (fun _ _ _ _ n=>n)
  (fun b o hc e=>⟨o,k b o (fun z=>hc (by simp[z])) e⟩) (fun _ _ e=>e) (fun _ _ _ e=>e) (fun b ps e=>⟨#[],by rw[e];simp⟩) (fun m hm=>?_) (fun b u e=>?_) I.bare
 .have e:b=it:=by simpa using hb
  subst e
  exact⟨h1,hL,h2,h3⟩
 .obtain⟨o,es,ep,ho,r⟩:=hm
  exact⟨o,es,ep,k _ o (Ne.symm hL) ho,r⟩
 .refine(I.hok b u e).stay (fun c v hc q=>k c v ?_ q) (fun _ q=>q) fun _ _ q=>q
  rcases hc with z|z
  .rw[z];exact nit b u e
  .exact nit c _ z
theorem Inv.tok (I:Inv X pins σ H s) (t:Nat):Inv X pins σ H { s with toks:=t }:=I.un (h':=s.heap) (t':=t) Un.refl I.hok
theorem Inv.kept {t':Nat} (I:Inv X pins σ H s) (k:∀b u,s.heap.get? b=some u->h'.get? b=some u):Inv X pins σ H { s with heap:=h',toks:=t' }:=I.un (Un.kept k) (I.hok.kept k)
theorem Inv.laid {a:Addr} {o:HO} {t':Nat} (I:Inv X pins σ H s) (k:∀b u,s.heap.get? b=some u->h'.get? b=some u) (hp:s.heap.objs.size≤a) (new:Dc X.prog X.w (upd H a o) h' a o) :
  Inv X pins σ (upd H a o) { s with heap:=h',toks:=t' }:=I.un (Un.laid k hp (I.hok.fresh hp)) (I.hok.laid k hp new)
theorem Inv.write {x e:Addr} {o:HO} {t':Nat} (I:Inv X pins σ H s) (mu:Mut (H x)) (he:e=x∨H e=some (.own x)) (k:∀b u,b≠e->s.heap.get? b=some u->h'.get? b=some u) (heo:∃u,h'.get? e=some u)
  (new:Dc X.prog X.w (upd H x o) h' x o):Inv X pins σ (upd H x o) { s with heap:=h',toks:=t' }:=I.un (Un.write mu he k heo) (I.hok.write mu he k heo new)
theorem Inv.pins_of {pins':List (Addr×Obj)} (I:Inv X pins σ H s) (h:∀p∈pins',s.heap.get? p.1=some p.2∧H p.1=none∧p.1≠X.env.locals∧p.1∉X.fs∧∀v,p.2.data≠.cell v):Inv X pins' σ H s:=
 ⟨I.ok,I.os,I.bare,I.base,I.loc,I.cell,I.free,I.freeC,fun p hp=>(List.mem_append.mp hp).elim (fun z=>I.pin p (List.mem_append_left _ z)) (h p),I.hok,I.len⟩
theorem V3 {N:List Str} (hN:N.Nodup) {i j:Nat} {x:Str} (a:N[i]?=some x) (b:N[j]?=some x):i=j:=by
 obtain⟨h1,e1⟩:=List.getElem?_eq_some_iff.mp a
 obtain⟨h2,e2⟩:=List.getElem?_eq_some_iff.mp b
 exact(List.getElem_inj hN).mp (e1.trans e2.symm)
theorem Aiw {M:Model} {A:Around} {E:Value->Shared->Prop} {i:Nat} {x:Str} {v:V} {u:Value} {Q:Unit->Shared->Prop} (I:Inv X pins σ H s) (hN:X.N.Nodup) (hi:X.N[i]?=some x) (hx:Loc X.env.scope x) (r:RelV v u)
  (h:∀s',Inv X pins (σ.set i (some v)) H s'->(∃a,Heap.SameBut a s.heap s'.heap∧(a=X.env.locals∨X.env.cells.lookup x=some a))->Q () s') (hf:X.fn x=true∨X.env.scope.names.lookup x=some .local:=by first|exact .inl rfl|exact .inr rfl|assumption):wpAny M A (storeName X.env x u) Q E s:=by
 obtain⟨m,hn,hl⟩:=id I.loc
 have hcls:(X.env.scope.kind==.class||(X.env.scope.kind==.module&&X.env.locals != X.env.globals))=false:=by rw[I.ok.kind];rfl
 have hiσ:i < σ.length:=by rw[I.len];exact(List.getElem?_eq_some_iff.mp hi).1
 have cne:=I.cne
 have tracked:∀{a:Addr} {h':Heap},(∃o,s.heap.get? a=some o∧H a=none)->Heap.SameBut a s.heap h'->HOk X.prog X.w H h':=fun {a h'} ha hs b ob e=>by
  obtain⟨_,_,hfree⟩:=ha
  refine(I.hok b ob e).stay (fun c w' hc q=>(hs.2 c ?_).trans q) (fun _ q=>q) fun _ _ q=>q
  rintro rfl
  rcases hc with rfl|hc
  .rw[hfree] at e;cases e
  .rw[hfree] at hc;cases hc
 rcases hx with hk|hk
 .refine wpAny_storeName_local hk hn (fun h' hn' hs=>?_) hcls
  obtain⟨oL,_,_,hoL,_⟩:=id hn
  refine h _ ⟨I.ok,I.os,I.bare,⟨fun b o e n hb hx=>?_,fun b o e n hb hx=>?_,I.base.free,fun b o e hx=>?_,I.base.tups,I.base.frzs,I.base.tbls⟩,⟨_,hn',fun j y v' e1 e2 e3=>?_⟩,fun y c e=>?_,I.free,I.freeC,fun p hp=>?_,tracked ⟨oL,hoL,I.free⟩ hs,by simpa using I.len⟩ ⟨_,hs,.inl rfl⟩
  .exact(hs.2 b (Nat.ne_of_lt (Nat.lt_of_lt_of_le (Heap.lt_size e) I.ok.above))).trans (I.base.keep b o e n hb hx)
  .obtain⟨sl,e1⟩:=I.base.slot b o e n hb hx
   exact⟨sl,(hs.2 b (Nat.ne_of_lt (Nat.lt_of_lt_of_le (Heap.lt_size e) I.ok.above))).trans e1⟩
  .obtain⟨o',e1⟩:=I.base.there b o e hx
   exact⟨o',(hs.2 b (Nat.ne_of_lt (Nat.lt_of_lt_of_le (Heap.lt_size e) I.ok.above))).trans e1⟩
  .by_cases hj:j=i
   .subst hj
    rw[hi] at e1;cases e1
    rw[List.getElem?_set_self hiσ] at e2
    cases e2
    exact⟨u,r,.inl ⟨hk,by simp⟩⟩
   .rw[List.getElem?_set_ne (Ne.symm hj)] at e2
    obtain⟨u',r',q⟩:=hl j y v' e1 e2 e3
    refine⟨u',r',?_⟩
    rcases q with ⟨k,e⟩|⟨k,c,e,z⟩
    .refine .inl ⟨k,?_⟩
     have:y≠x:=fun e=>hj (V3 hN e1 (e ▸ hi))
     simp[this,e]
    .exact .inr ⟨k,c,e,z.sameBut hs (cne y c e)⟩
  .obtain⟨w',z⟩:=I.cell y c e
   exact⟨w',z.sameBut hs (cne y c e)⟩
  .obtain⟨e,n,ne,nf,d⟩:=I.pin p hp
   exact⟨(hs.2 p.1 ne).trans e,n,ne,nf,d⟩
 .have hfn:X.fn x=true:=by
   rcases hf with z|z
   .exact z
   .rw[z] at hk;cases hk
  obtain⟨c,hc⟩:=I.ok.has x (.inl hk)
  obtain⟨w',z⟩:=I.cell x c hc
  refine wpAny_storeName_cell I.ok.kind hk hc z (fun h' hc' hs=>?_)
  obtain⟨oc,hoc,hocd⟩:=id z
  refine h { s with heap:=h' } ⟨I.ok,I.os,I.bare,⟨fun b o e n hb hx=>?_,fun b o e n hb hx=>?_,I.base.free,fun b o e hx=>?_,I.base.tups,I.base.frzs,I.base.tbls⟩,⟨m,hn.sameBut hs (Ne.symm (cne x c hc)),fun j y v' e1 e2 e3=>?_⟩,fun y c' e=>?_,I.free,I.freeC,fun p hp=>?_,tracked ⟨oc,hoc,I.freeC x c hc⟩ hs,by simpa using I.len⟩ ⟨c,hs,.inr hc⟩
  .exact(hs.2 b (Nat.ne_of_lt (Nat.lt_of_lt_of_le (Heap.lt_size e) (I.ok.cab x c hfn hc)))).trans (I.base.keep b o e n hb hx)
  .obtain⟨sl,e1⟩:=I.base.slot b o e n hb hx
   exact⟨sl,(hs.2 b (Nat.ne_of_lt (Nat.lt_of_lt_of_le (Heap.lt_size e) (I.ok.cab x c hfn hc)))).trans e1⟩
  .obtain⟨o',e1⟩:=I.base.there b o e hx
   exact⟨o',(hs.2 b (Nat.ne_of_lt (Nat.lt_of_lt_of_le (Heap.lt_size e) (I.ok.cab x c hfn hc)))).trans e1⟩
  .by_cases hj:j=i
   .subst hj
    rw[hi] at e1;cases e1
    rw[List.getElem?_set_self hiσ] at e2
    cases e2
    exact⟨u,r,.inr ⟨.inl hk,c,hc,hc'⟩⟩
   .rw[List.getElem?_set_ne (Ne.symm hj)] at e2
    obtain⟨u',r',q⟩:=hl j y v' e1 e2 e3
    refine⟨u',r',?_⟩
    rcases q with q|⟨k,c',e,z'⟩
    .exact .inl q
    .refine .inr ⟨k,c',e,z'.sameBut hs ?_⟩
     rintro rfl
     exact hj (V3 hN e1 (I.ok.inj _ _ _ e hc ▸ hi))
  .by_cases hcc:c'=c
   .subst hcc;exact⟨_,hc'⟩
   .obtain⟨w2,z2⟩:=I.cell y c' e
    exact⟨w2,z2.sameBut hs hcc⟩
  .obtain⟨e,n,ne,nf,d⟩:=I.pin p hp
   refine⟨(hs.2 p.1 ?_).trans e,n,ne,nf,d⟩
   intro q
   rw[q,hoc] at e
   have q':oc=p.2:=Option.some.inj e
   exact d w' (by rw[←q'];exact hocd)
theorem V4 {M:Model} {A:Around} {E:Value->Shared->Prop} {i:Nat} {x:Str} {v:V} {u:Value} {Q:Unit->Shared->Prop} (I:Inv X pins σ H s) (hN:X.N.Nodup) (hi:X.N[i]?=some x) (hx:Loc X.env.scope x) (r:RelV v u)
  (h:∀s',Inv X pins (σ.set i (some v)) H s'->Q () s') (hf:X.fn x=true∨X.env.scope.names.lookup x=some .local:=by first|exact .inl rfl|exact .inr rfl|assumption):wpAny M A (storeName X.env x u) Q E s:=
 Aiw I hN hi hx r (fun s' I' _=>h s' I') hf
theorem Inv.call' {s':Shared} {ch:List Addr} (I:Inv X pins σ H s) (ho:s'.os=s.os) (u:Un (frs X.stack) ch H H' s.heap s'.heap) (hok:HOk X.prog X.w H' s'.heap) (hg:AllBare s'.gens)
  (hch:∀b∈ch,(b∈X.ex∨X.s₀.heap.objs.size≤b)∧b≠X.env.locals∧(∀x c,X.env.cells.lookup x=some c->c≠b)∧∀p∈X.pn ++ pins,p.1≠b):Inv X pins σ H' s':=by
 obtain⟨h',g',d',t',o'⟩:=s'
 have e:o'=s.os:=ho
 subst e
 exact I.call (g':=g') (t':=t') (d':=d') u hok hg hch
end
abbrev XK:=Value->Option Addr->Hp->Prop
abbrev St:=List (Option V)
abbrev VK:=V->Hp->Prop
abbrev TE:=St->Hp->VK->Prop
abbrev TT:=St->Hp->(Bool->Hp->Prop)->Prop
abbrev TA:=St->Hp->(List V->Hp->Prop)->Prop
structure Ends where
 nx:St->Hp->Prop
 rt:VK
 bk:St->Hp->Prop:=fun _ _=>False
 ct:St->Hp->Prop:=fun _ _=>False
abbrev TS:=Ends->St->Hp->Prop
def EP (X:Cx) (pins:List (Addr×Obj)) (σ:St) (Q:VK) (u:Value) (s':Shared):Prop:=∃v H',Inv X pins σ H' s'∧RelV v u∧Q v H'
def TP (X:Cx) (pins:List (Addr×Obj)) (σ:St) (Q:Bool->Hp->Prop) (b:Bool) (s':Shared):Prop:=∃H',Inv X pins σ H' s'∧Q b H'
def AP (X:Cx) (pins:List (Addr×Obj)) (σ:St) (Q:List V->Hp->Prop) (us:List Value) (s':Shared):Prop:=∃vs H',Inv X pins σ H' s'∧Vals vs us∧Q vs H'
def SP (X:Cx) (pins:List (Addr×Obj)) (D:Ends) (f:Flow) (s':Shared):Prop:=
 match f with
 |.next=>∃σ' H',Inv X pins σ' H' s'∧D.nx σ' H'
 |.brk=>∃σ' H',Inv X pins σ' H' s'∧D.bk σ' H'
 |.cont=>∃σ' H',Inv X pins σ' H' s'∧D.ct σ' H'
 |.ret u=>∃v σ' H',Inv X pins σ' H' s'∧RelV v u∧D.rt v H'
def PE (X:Cx) (e:Expr) (t:TE):Prop:=
 ∀(pins:List (Addr×Obj)) (s:Shared) (σ:St) (H:Hp) (Q:VK),Inv X pins σ H s->t σ H Q->wpAny (model X.prog X.w) X.A (eval e X.env) (EP X pins σ Q) X.xe s
def PT (X:Cx) (e:Expr) (t:TT):Prop:=
 ∀(pins:List (Addr×Obj)) (s:Shared) (σ:St) (H:Hp) (Q:Bool->Hp->Prop),Inv X pins σ H s->t σ H Q->wpAny (model X.prog X.w) X.A (isTrue e X.env (eval e X.env)) (TP X pins σ Q) X.xe s
def PW (X:Cx) (e:Expr) (t:TT):Prop:=
 ∀(whole:Sem Value) (pins:List (Addr×Obj)) (s:Shared) (σ:St) (H:Hp) (Q:Bool->Hp->Prop),Inv X pins σ H s->t σ H Q->wpAny (model X.prog X.w) X.A (isTrue e X.env whole) (TP X pins σ Q) X.xe s
theorem PW.pt {X:Cx} {e:Expr} {t:TT} (h:PW X e t):PT X e t:=h _
def PA (X:Cx) (es:List Expr) (t:TA):Prop:=
 ∀(pos:Pos) (pins:List (Addr×Obj)) (s:Shared) (σ:St) (H:Hp) (Q:List V->Hp->Prop),Inv X pins σ H s->t σ H Q->wpAny (model X.prog X.w) X.A (spliced (backTo pos (starEach es X.env))) (AP X pins σ Q) X.xe s
def PS (X:Cx) (st:Stmt) (t:TS):Prop:=
 ∀(pins:List (Addr×Obj)) (s:Shared) (σ:St) (H:Hp) (D:Ends),Inv X pins σ H s->t D σ H->wpAny (model X.prog X.w) X.A (exec st X.env) (SP X pins D) X.xe s
def PSs (X:Cx) (st:List Stmt) (t:TS):Prop:=
 ∀(pins:List (Addr×Obj)) (s:Shared) (σ:St) (H:Hp) (D:Ends),Inv X pins σ H s->t D σ H->wpAny (model X.prog X.w) X.A (execs st X.env) (SP X pins D) X.xe s
theorem thn {α:Type} {t:Sem α} {Q Q':α->Shared->Prop} {M:Model} {A:Around} {E:Value->Shared->Prop} {s:Shared} (h:wpAny M A t Q E s) (hQ:∀a s,Q a s->Q' a s):wpAny M A t Q' E s:=wpAny_mono h hQ fun _ _ x=>x
section
variable {X:Cx}
theorem bin {a b:Expr} {ta tb:TE} (ha:PE X a ta) (hb:PE X b tb) {pins:List (Addr×Obj)} {s:Shared} {σ:St} {H:Hp} {R:V->V->Hp->Prop} (I:Inv X pins σ H s) (h:ta σ H fun x H1=>tb σ H1 fun y H2=>R x y H2)
  {α:Type} {Q:α->Shared->Prop} {f:Value->Value->Sem α}
  (hf:∀v u s2 x y H2,Inv X pins σ H2 s2->RelV x v->RelV y u->R x y H2->wpAny (model X.prog X.w) X.A (f v u) Q X.xe s2) :
  wpAny (model X.prog X.w) X.A (eval a X.env) (fun v s₁=>wpAny (model X.prog X.w) X.A (eval b X.env) (fun u s₂=>wpAny (model X.prog X.w) X.A (f v u) Q X.xe s₂) X.xe s₁) X.xe s:=by
 refine thn (ha pins s σ H _ I h) fun v s1 ⟨x,H1,I1,r1,q1⟩=>?_
 refine thn (hb pins s1 σ H1 _ I1 q1) fun u s2 ⟨y,H2,I2,r2,q2⟩=>?_
 exact hf v u s2 x y H2 I2 r1 r2 q2
def Aum (i:Nat):TE:=fun σ H Q=>∃v,σ[i]?=some (some v)∧Q v H
def tC (v:V):TE:=fun _ H Q=>Q v H
theorem V5 {i:Nat} {x:Str} {pos:Pos} (hN:X.N[i]?=some x) (hv:Vis X.env.scope x) (hd:(x==("__debug__":Str))=false:=by decide) (hcd:(x==("__classdict__":Str))=false:=by decide):PE X (.Name x pos) (Aum i):=by
 intro pins s σ H Q I h
 obtain⟨v,e,h⟩:=h
 obtain⟨m,hn,hl⟩:=I.loc
 obtain⟨u,r,l⟩:=hl i x v hN e hv
 have fin:EP X pins σ Q u s:=⟨v,H,I,r,h⟩
 rcases l with ⟨hk,hm⟩|⟨hk,c,hc,hcell⟩
 .exact wpAny_Name (wpAny_loadName_local I.ok.kind hk hn hm fin) hd
 .rcases hk with hk|hk
  .exact wpAny_Name (wpAny_loadName_cell I.ok.kind hk hc hcell fin) hd
  .exact wpAny_Name (wpAny_loadName_free I.ok.kind hk hc hcell fin hcd) hd
theorem Ak5 {i j pos}:PE X (.Constant (.int i) j pos) (tC (.int i)):=fun _ _ _ H _ I h=>wpAny_Constant_int ⟨.int i,H,I.tok _,⟨_,rfl⟩,h⟩
theorem Ayd {b j pos}:PE X (.Constant (.bool b) j pos) (tC (.bl b)):=fun _ _ _ H _ I h=>Constant_bool ⟨.bl b,H,I,rfl,h⟩
theorem Aun {j pos}:PE X (.Constant .none j pos) (tC .non):=fun _ _ _ H _ I h=>Constant_none ⟨.non,H,I,rfl,h⟩
theorem Auo {x j pos}:PE X (.Constant (.str x) j pos) (tC (.str x)):=fun _ _ _ H _ I h=>Calls.Constant_str ⟨.str x,H,I.tok _,⟨_,rfl⟩,h⟩
def Gl (X:Cx) (x:Str):Prop:=X.env.kindOf x=some .globalImplicit
theorem Ov {E:Value->Shared->Prop} {pins:List (Addr×Obj)} {s:Shared} {σ:St} {H:Hp} {x:Str} {u:Value} {pos:Pos} {Q:Value->Shared->Prop} (I:Inv X pins σ H s) (hg:Gl X x) (hm:X.mg x=some u) (h:Q u s)
  (hd:(x==("__debug__":Str))=false:=by decide):wpAny (model X.prog X.w) X.A (eval (.Name x pos) X.env) Q E s:=
 Calls.Name_function_global I.ok.kind hg (Calls.loadGlobal_global (by rw[I.ok.glob];exact I.mod.glob.keeps I.bk) hm h) hd
theorem Py {E:Value->Shared->Prop} {pins:List (Addr×Obj)} {s:Shared} {σ:St} {H:Hp} {x:Str} {u:Value} {pos:Pos} {Q:Value->Shared->Prop} (I:Inv X pins σ H s) (hg:Gl X x) (hm:X.mg x=none) (hv:bootBuiltins x=some u) (h:Q u s)
  (hn:x≠"__name__":=by decide) (hd:(x==("__debug__":Str))=false:=by decide):wpAny (model X.prog X.w) X.A (eval (.Name x pos) X.env) Q E s:=by
 obtain⟨mb,h1,h2⟩:=I.mod.blt
 exact Calls.Name_function_global I.ok.kind hg (Calls.loadGlobal_builtin (by rw[I.ok.glob];exact I.mod.glob.keeps I.bk) hm (by rw[I.ok.blt];exact h1.keeps I.bk) ((h2 x hn).trans hv) h) hd
theorem Ao6 {x:Str} {v:V} {u:Value} {pos:Pos} (hg:Gl X x) (hm:X.mg x=some u) (r:RelV v u) (hd:(x==("__debug__":Str))=false:=by decide):PE X (.Name x pos) (tC v):=
 fun _ _ _ H _ I h=>Ov I hg hm ⟨v,H,I,r,h⟩ hd
theorem Ao7 {x:Str} {v:V} {u:Value} {pos:Pos} (hg:Gl X x) (hm:X.mg x=none) (hv:bootBuiltins x=some u) (r:RelV v u) (hn:x≠"__name__":=by decide) (hd:(x==("__debug__":Str))=false:=by decide):PE X (.Name x pos) (tC v):=
 fun _ _ _ H _ I h=>Py I hg hm hv ⟨v,H,I,r,h⟩ hn hd
variable {a b:Expr} {ta tb:TE} {pos:Pos}
def PC (X:Cx) (op:CmpOp) (a b:Expr) (t:TE):Prop:=
 ∀(pins:List (Addr×Obj)) (s:Shared) (σ:St) (H:Hp) (Q:VK),Inv X pins σ H s->t σ H Q->
  wpAny (model X.prog X.w) X.A (eval a X.env) (fun v s₁=>wpAny (model X.prog X.w) X.A (eval b X.env) (fun u s₂=>wpAny (model X.prog X.w) X.A (compareOp op v u) (EP X pins σ Q) X.xe s₂) X.xe s₁) X.xe s
theorem Ak6 (b:Expr) {op:CmpOp} (h:op≠.In) (h2:op≠.NotIn):behindInMarks op b=false:=by
 have e1:(op==CmpOp.In)=false:=by cases op <;> first|rfl|exact absurd rfl h
 have e2:(op==CmpOp.NotIn)=false:=by cases op <;> first|rfl|exact absurd rfl h2
 cases b <;> simp[behindInMarks,e1,e2]
def tB (t:TE):TT:=fun σ H Q=>t σ H fun x H1=>∃c,x=.bl c∧Q c H1
theorem Bbk {op:CmpOp} {t:TE} (h:PC X op a b t) (h1:behindInMarks op b=false:=by first|exact Ak6 _ (by decide) (by decide)|rfl):PT X (.Compare a [op] [b] pos) (tB t):=by
 intro pins s σ H Q I hw
 refine wpAny_isTrue_Compare1 (thn (h pins s σ H _ I hw) fun v s1 h1=>thn h1 fun u s2 h2=>thn h2 fun c s3 ⟨x,H1,I1,r1,q1⟩=>?_) h1
 obtain⟨d,rfl,q⟩:=q1
 cases r1
 exact wpAny_truthy_bool ⟨H1,I1,q⟩
theorem Aup {e:Expr} {t:TE} (h:PE X e t) (he:∀whole,isTrue e X.env whole=(do let v←whole;standAt e.pos;holding [v] (truthy v)):=by intro _;rfl):PT X e (tB t):=by
 intro pins s σ H Q I hw
 refine isTrue_plain (thn (h pins s σ H _ I hw) fun v s1 ⟨x,H1,I1,r1,q1⟩=>?_) (he _)
 obtain⟨d,rfl,q⟩:=q1
 cases r1
 exact wpAny_truthy_bool ⟨H1,I1,q⟩
variable {tA tB':TT} {rest:List Expr}
def Aye (t u:TT):TT:=fun σ H Q=>t σ H fun c H1=>if c=true then u σ H1 Q else Q false H1
def tOr (t u:TT):TT:=fun σ H Q=>t σ H fun c H1=>if c=true then Q true H1 else u σ H1 Q
def Ayf (t:TT):TT:=fun σ H Q=>t σ H fun c H1=>Q (!c) H1
theorem Ao8 (ha:PT X a tA):PW X (.BoolOp .And [a] pos) tA:=by
 intro wh pins s σ H Q I h
 refine isTrue_and (thn (ha pins s σ H Q I h) fun c s1 e=>?_)
 cases c with
 |true=>exact isTrue_and_nil e
 |false=>exact e
theorem Auq (ha:PT X a tA):PW X (.BoolOp .Or [a] pos) tA:=by
 intro wh pins s σ H Q I h
 refine isTrue_or (thn (ha pins s σ H Q I h) fun c s1 e=>?_)
 cases c with
 |false=>exact isTrue_or_nil e
 |true=>exact e
theorem Aur (ha:PT X a tA) (hb:PW X (.BoolOp .And (b::rest) pos) tB'):PW X (.BoolOp .And (a::b::rest) pos) (Aye tA tB'):=by
 intro wh pins s σ H Q I h
 refine isTrue_and (thn (ha pins s σ H _ I h) fun c s1 ⟨H1,I1,q1⟩=>?_)
 cases c with
 |true=>exact hb wh pins s1 σ H1 Q I1 q1
 |false=>exact⟨H1,I1,q1⟩
theorem Ayg (ha:PT X a tA) (hb:PW X (.BoolOp .Or (b::rest) pos) tB'):PW X (.BoolOp .Or (a::b::rest) pos) (tOr tA tB'):=by
 intro wh pins s σ H Q I h
 refine isTrue_or (thn (ha pins s σ H _ I h) fun c s1 ⟨H1,I1,q1⟩=>?_)
 cases c with
 |true=>exact⟨H1,I1,q1⟩
 |false=>exact hb wh pins s1 σ H1 Q I1 q1
theorem Aus (ha:PT X a tA):PT X (.UnaryOp .Not a pos) (Ayf tA):=by
 intro pins s σ H Q I h
 exact isTrue_not (ha pins s σ H (fun c H1=>Q (!c) H1) I h)
def Ats (ta tb:TE):TE:=fun σ H Q=>ta σ H fun x H1=>∃c,x=.bl c∧if c=true then tb σ H1 Q else Q (.bl false) H1
def Ayh (ta tb:TE):TE:=fun σ H Q=>ta σ H fun x H1=>∃c,x=.bl c∧if c=true then Q (.bl true) H1 else tb σ H1 Q
def Atu (ta:TE):TE:=fun σ H Q=>ta σ H fun x H1=>∃c,x=.bl c∧Q (.bl (!c)) H1
theorem Aut {op} {t:TE} (h:PE X a t):PE X (.BoolOp op [a] pos) t:=fun pins s σ H Q I hw=>BoolOp_one (h pins s σ H Q I hw)
theorem Auu (ha:PE X a ta) (hb:PE X (.BoolOp .And (b::rest) pos) tb):PE X (.BoolOp .And (a::b::rest) pos) (Ats ta tb):=by
 intro pins s σ H Q I h
 refine BoolOp_and (thn (ha pins s σ H _ I h) fun v s1 ⟨x,H1,I1,r1,q1⟩=>?_)
 obtain⟨c,rfl,q1⟩:=q1
 cases r1
 refine wpAny_truthy_bool ?_
 cases c with
 |true=>exact hb pins s1 σ H1 Q I1 q1
 |false=>exact⟨.bl false,H1,I1,rfl,q1⟩
theorem Ayi (ha:PE X a ta) (hb:PE X (.BoolOp .Or (b::rest) pos) tb):PE X (.BoolOp .Or (a::b::rest) pos) (Ayh ta tb):=by
 intro pins s σ H Q I h
 refine BoolOp_or (thn (ha pins s σ H _ I h) fun v s1 ⟨x,H1,I1,r1,q1⟩=>?_)
 obtain⟨c,rfl,q1⟩:=q1
 cases r1
 refine wpAny_truthy_bool ?_
 cases c with
 |false=>exact hb pins s1 σ H1 Q I1 q1
 |true=>exact⟨.bl true,H1,I1,rfl,q1⟩
theorem Auv (ha:PE X a ta):PE X (.UnaryOp .Not a pos) (Atu ta):=by
 intro pins s σ H Q I h
 refine UnaryOp_ (thn (ha pins s σ H _ I h) fun v s1 ⟨x,H1,I1,r1,q1⟩=>?_)
 obtain⟨c,rfl,q1⟩:=q1
 cases r1
 exact not_of (wpAny_truthy_bool ⟨.bl (!c),H1,I1,rfl,q1⟩)
def tIf (t:TT) (ta tb:TE):TE:=fun σ H Q=>t σ H fun c H1=>if c=true then ta σ H1 Q else tb σ H1 Q
theorem Ak7 {c:Expr} (hc:PT X c tA) (ha:PE X a ta) (hb:PE X b tb):PE X (.IfExp c a b pos) (tIf tA ta tb):=by
 intro pins s σ H Q I h
 refine wpAny_IfExp (thn (hc pins s σ H _ I h) fun d s1 ⟨H1,I1,q1⟩=>?_)
 cases d with
 |true=>exact ha pins s1 σ H1 Q I1 q1
 |false=>exact hb pins s1 σ H1 Q I1 q1
end
def SqL (K:PySem.W.Frag) (H:Hp) (a:Addr) (xs:List V):Prop:=
 Rd H a (.lst xs)∨
  ∃(o:Obj) (its:Array Value) (n:Nat),K.lookup a=some o∧o.cls=.type "list"∧o.dict=none∧o.data=.seq its n∧its.size≤sizeLine∧Vals xs its.toList
def SqT (K:PySem.W.Frag) (H:Hp) (a:Addr) (xs:List V):Prop:=
 Rd H a (.tup xs)∨
  ∃(o:Obj) (its:Array Value) (n:Nat),K.lookup a=some o∧o.cls=.type "tuple"∧o.data=.seq its n∧its.size≤sizeLine∧Vals xs its.toList
def Bbl:Value->Option V
 |.none=>some .non
 |.bool b=>some (.bl b)
 |.int i _=>some (.int i)
 |.str x _=>some (.str x)
 |.bytes b _=>some (.byt b)
 |.float b _=>some (.flt b)
 |.ref a=>some (.ref a)
 |.type n=>some (.ty n)
 |_=>none
theorem RelV.abs {x:V} {u:Value} (r:RelV x u):Bbl u=some x:=by
 cases x with
 |non=>cases r;rfl
 |bl _=>cases r;rfl
 |int _=>obtain⟨t,rfl⟩:=r;rfl
 |str _=>obtain⟨t,rfl⟩:=r;rfl
 |byt _=>obtain⟨t,rfl⟩:=r;rfl
 |flt _=>obtain⟨t,rfl⟩:=r;rfl
 |ref _=>cases r;rfl
 |ty _=>cases r;rfl
theorem RelV.inj {x y:V} {u:Value} (r:RelV x u) (q:RelV y u):x=y:=Option.some.inj (r.abs.symm.trans q.abs)
theorem Vals.inj:∀{xs ys:List V} {us:List Value},Vals xs us->Vals ys us->xs=ys
 |_,_,_,.nil,.nil=>rfl
 |_,_,_,.cons r t,.cons r' t'=>by rw[r.inj r',Vals.inj t t']
section
variable {X:Cx} {pins:List (Addr×Obj)} {σ:St} {H:Hp} {s:Shared} {a:Addr} {xs ys:List V}
theorem SqT.of {K:PySem.W.Frag} (h:H a=some (.tup xs)):SqT K H a xs:=.inl (.inl h)
theorem Inv.list (I:Inv X pins σ H s) (h:SqL X.K H a xs):∃its:List Value,Vals xs its∧PlainL s.heap a its.toArray∧xs.length≤sizeLine:=by
 rcases h with h|⟨o,its,n,hk,hc,hd,hs,hz,r⟩
 .obtain⟨z,its,n,r,e⟩:=h.ok I.hok
  exact⟨its,r,⟨_,n,e,rfl,rfl,rfl⟩,z⟩
 .refine⟨its.toList,r,⟨o,n,I.kIn a o hk,hc,hd,by simpa using hs⟩,?_⟩
  have e:=r.length
  simp only[Array.length_toList] at e
  omega
theorem Inv.tuple (I:Inv X pins σ H s) (h:SqT X.K H a xs):∃its:List Value,Vals xs its∧IsTup s.heap a its.toArray∧xs.length≤sizeLine:=by
 rcases h with h|⟨o,its,n,hk,hc,hs,hz,r⟩
 .obtain⟨z,its,r,p⟩:=h.ok I.hok
  exact⟨its,r,p,z⟩
 .refine⟨its.toList,r,⟨o,I.kIn a o hk,hc,n,by simpa using hs⟩,?_⟩
  have e:=r.length
  simp only[Array.length_toList] at e
  omega
theorem Inv.list_inj (I:Inv X pins σ H s) (h:SqL X.K H a xs) (h':SqL X.K H a ys):xs=ys:=by
 obtain⟨its,r,⟨o,n,e,_,_,d⟩,_⟩:=I.list h
 obtain⟨its',r',⟨o',n',e',_,_,d'⟩,_⟩:=I.list h'
 rw[e] at e';cases e'
 rw[d] at d'
 injection d' with d1 _
 have:its=its':=by simpa using congrArg Array.toList d1
 subst this
 exact r.inj r'
theorem Inv.tuple_inj (I:Inv X pins σ H s) (h:SqT X.K H a xs) (h':SqT X.K H a ys):xs=ys:=by
 obtain⟨its,r,⟨o,e,_,n,d⟩,_⟩:=I.tuple h
 obtain⟨its',r',⟨o',e',_,n',d'⟩,_⟩:=I.tuple h'
 rw[e] at e';cases e'
 rw[d] at d'
 injection d' with d1 _
 have:its=its':=by simpa using congrArg Array.toList d1
 subst this
 exact r.inj r'
end
section
variable {X:Cx} {st:Stmt} {rest:List Stmt} {t u:TS} {e:Expr} {te:TE} {pos:Pos}
def Ak8:TS:=fun D σ H=>D.nx σ H
def Ayj (t u:TS):TS:=fun D σ H=>t { D with nx:=u D } σ H
theorem Ao9:PSs X [] Ak8:=fun _ _ σ H _ I h=>wpAny_execs_nil ⟨σ,H,I,h⟩
theorem Acp (h1:PS X st t) (h2:PSs X rest u):PSs X (st::rest) (Ayj t u):=by
 intro pins s σ H D I h
 refine wpAny_execs_cons (thn (h1 pins s σ H { D with nx:=u D } I h) fun f s1 q=>?_)
 cases f with
 |next=>
  obtain⟨σ',H',I',q⟩:=q
  exact h2 pins s1 σ' H' D I' q
 |ret v=>exact q
 |brk=>exact q
 |cont=>exact q
theorem Apa (h1:PS X st t):PSs X [st] t:=by
 intro pins s σ H D I h
 refine wpAny_execs_cons (thn (h1 pins s σ H D I h) fun f s1 q=>?_)
 cases f with
 |next=>exact wpAny_execs_nil q
 |ret v=>exact q
 |brk=>exact q
 |cont=>exact q
def Auw:TS:=fun D σ H=>D.bk σ H
def Ayk:TS:=fun D σ H=>D.ct σ H
theorem Apb:PS X (.Pass pos) Ak8:=fun _ _ σ H _ I h=>wpAny_Pass ⟨σ,H,I,h⟩
theorem Ak9:PS X (.Break pos) Auw:=fun _ _ σ H _ I h=>wpAny_Break ⟨σ,H,I,h⟩
theorem Acq:PS X (.Continue pos) Ayk:=fun _ _ σ H _ I h=>wpAny_Continue ⟨σ,H,I,h⟩
theorem Inv.quiet {pins:List (Addr×Obj)} {σ:St} {H:Hp} {s:Shared} (I:Inv X pins σ H s):interactive X.env=false:=by simp[interactive,I.ok.kind]
def Atv (te:TE):TS:=fun D σ H=>te σ H fun _ H1=>D.nx σ H1
theorem Ag7 (he:PE X e te) (hs:swapsWith e none pos.line X.env=pure false:=by rfl):PS X (.Expr e pos) (Atv te):=by
 intro pins s σ H D I h
 exact wpAny_Expr_any (thn (he pins s σ H _ I h) fun v s1 ⟨x,H1,I1,r1,q1⟩=>⟨σ,H1,I1,q1⟩) I.quiet hs
def Ayl (te:TE):TS:=fun D σ H=>te σ H D.rt
theorem Aux (he:PE X e te):PS X (.Return (some e) pos) (Ayl te):=by
 intro pins s σ H D I h
 exact wpAny_Return_some (thn (he pins s σ H _ I h) fun v s1 ⟨x,H1,I1,r1,q1⟩=>⟨x,σ,H1,I1,r1,q1⟩)
def Aym:TS:=fun D _ H=>D.rt .non H
theorem Apc:PS X (.Return none pos) Aym:=fun _ _ σ H _ I h=>wpAny_Return_none ⟨.non,σ,H,I,rfl,h⟩
def Ayn (c:TT) (t u:TS):TS:=fun D σ H=>c σ H fun b H1=>if b=true then t D σ H1 else u D σ H1
theorem Ayo {c:Expr} {a b:List Stmt} {tc:TT} (hc:PT X c tc) (ha:PSs X a t) (hb:PSs X b u):PS X (.If c a b pos) (Ayn tc t u):=by
 intro pins s σ H D I h
 refine wpAny_If (thn (hc pins s σ H _ I h) fun d s1 ⟨H1,I1,q1⟩=>?_)
 cases d with
 |true=>exact ha pins s1 σ H1 D I1 q1
 |false=>exact hb pins s1 σ H1 D I1 q1
end
abbrev TG:=V->St->Hp->(St->Hp->Prop)->Prop
abbrev TGs:=List V->St->Hp->(St->Hp->Prop)->Prop
def PG (X:Cx) (target:Expr) (t:TG):Prop:=
 ∀(pins:List (Addr×Obj)) (s:Shared) (σ:St) (H:Hp) (v:V) (u:Value) (Q:St->Hp->Prop),Inv X pins σ H s->RelV v u->t v σ H Q->
  wpAny (model X.prog X.w) X.A (assign target X.env u) (fun _ s'=>∃σ' H',Inv X pins σ' H' s'∧Q σ' H') X.xe s
def PGs (X:Cx) (ts:List Expr) (t:TGs):Prop:=
 ∀(pins:List (Addr×Obj)) (s:Shared) (σ:St) (H:Hp) (vs:List V) (us:List Value) (Q:St->Hp->Prop),Inv X pins σ H s->Vals vs us->t vs σ H Q->
  wpAny (model X.prog X.w) X.A (assignInOrder ((assignEach ts X.env).map (·.2)) us) (fun _ s'=>∃σ' H',Inv X pins σ' H' s'∧Q σ' H') X.xe s
section
variable {X:Cx} {pos:Pos}
def K8 (i:Nat):TG:=fun v σ H Q=>Q (σ.set i (some v)) H
theorem Apd {i:Nat} {x:Str} (hN:X.N.Nodup) (hi:X.N[i]?=some x) (hx:Loc X.env.scope x) (hf:X.fn x=true∨X.env.scope.names.lookup x=some .local:=by first|exact .inl rfl|exact .inr rfl|assumption):PG X (.Name x pos) (K8 i):=by
 intro pins s σ H v u Q I r h
 exact wpAny_assign_Name (V4 I hN hi hx r (fun s' I'=>⟨_,H,I',h⟩) hf)
def Ayp:TGs:=fun vs σ H Q=>vs=[]∧Q σ H
def Atw (t:TG) (u:TGs):TGs:=fun vs σ H Q=>∃v r,vs=v::r∧t v σ H fun σ' H'=>u r σ' H' Q
theorem Ape:PGs X [] Ayp:=by
 intro pins s σ H vs us Q I r h
 obtain⟨e,h⟩:=h
 subst e
 cases r
 exact assignInOrder_nil ⟨σ,H,I,h⟩
theorem Ala {e:Expr} {es:List Expr} {t:TG} {u:TGs} (h1:PG X e t) (h2:PGs X es u)
  (hs:(assignEach (e::es) X.env).map (·.2)=assign e X.env::(assignEach es X.env).map (·.2):=by rfl):PGs X (e::es) (Atw t u):=by
 intro pins s σ H vs us Q I r h
 obtain⟨v,vr,e1,h⟩:=h
 subst e1
 cases r with
 |cons r rr=>
  rw[hs]
  refine assignInOrder_cons (thn (h1 pins s σ H _ _ _ I r h) fun _ s1 ⟨σ1,H1,I1,q1⟩=>?_)
  exact h2 pins s1 σ1 H1 _ _ Q I1 rr q1
def Auy (K:PySem.W.Frag) (n:Nat) (t:TGs):TG:=fun v σ H Q=>∃a xs,v=.ref a∧SqT K H a xs∧xs.length=n∧t xs σ H Q
theorem Auz {es:List Expr} {k:Nat} {t:TGs} {n:Nat} (hc:X.calm=true) (h:PGs X es t)
  (hn:(assignEach es X.env).length=n:=by rfl) (hst:(assignEach es X.env).findIdx? (·.1)=none:=by rfl):PG X (.Tuple es k pos) (Auy X.K n t):=by
 intro pins s σ H v u Q I r hw
 obtain⟨a,xs,e1,hq,hl,hw⟩:=hw
 subst e1
 cases r
 obtain⟨its,rv,ht,hz⟩:=I.tuple hq
 refine assign_Tuple_tuple (I.ok.hd hc) ht (by simp[hn,←hl,rv.length]) hst fun h' hx=>?_
 have I1:Inv X pins σ H { s with heap:=h' }:=I.kept (t':=s.toks) fun b o e=>hx b o (Nat.ne_of_lt (Heap.lt_size e)) e
 exact h pins _ σ H xs _ Q I1 (by simpa using rv) hw
def Apf (te:TE) (g:TG):TS:=fun D σ H=>te σ H fun x H1=>g x σ H1 D.nx
theorem Au0 {i:Nat} {x:Str} {e:Expr} {te:TE} {pos':Pos} (hN:X.N.Nodup) (hi:X.N[i]?=some x) (hx:Loc X.env.scope x) (he:PE X e te) (hs:swapsWith e (some (.Name x pos')) pos.line X.env=pure false:=by rfl) (hf:X.fn x=true∨X.env.scope.names.lookup x=some .local:=by first|exact .inl rfl|exact .inr rfl|assumption) :
  PS X (.Assign [.Name x pos'] e pos) (Apf te (K8 i)):=by
 intro pins s σ H D I h
 refine wpAny_Assign_Name (thn (he pins s σ H _ I h) fun v s1 ⟨y,H1,I1,r1,q1⟩=>?_) hs
 exact V4 I1 hN hi hx r1 (fun s2 I2=>⟨_,H1,I2,q1⟩) hf
end
section
variable {X:Cx} {pos:Pos}
def Au1 (c:TT) (tb:TS):TS:=fun D σ H=>∃W:Nat->St->Hp->Prop,(∃m,W m σ H)∧∀m σ H,W m σ H->
 c σ H fun b H1=>if b=true then ∃N:St->Hp->Prop,(∀σ' H',N σ' H'->∃m',m' < m∧W m' σ' H')∧tb { D with nx:=N,ct:=N,bk:=D.nx } σ H1 else D.nx σ H1
theorem Alb {c:Expr} {body:List Stmt} {tc:TT} {tb:TS} (hp:PassesOwn (model X.prog X.w) X.A X.env X.xe) (hc:PT X c tc) (hb:PSs X body tb):PS X (.While c body [] pos) (Au1 tc tb):=by
 intro pins s σ H D I h
 obtain⟨W,⟨m0,w0⟩,turn⟩:=h
 refine wpAny_While (codeAny_whileLoop (fun n s'=>∃σ' H',Inv X pins σ' H' s'∧W n σ' H') ?_ m0 ⟨σ,H,I,w0⟩)
 rintro n s1 ⟨σ1,H1,I1,w1⟩
 refine wpAny_passesOwn hp (thn (hc pins s1 σ1 H1 _ I1 (turn n σ1 H1 w1)) fun b s2 ⟨H2,I2,q2⟩=>?_)
 cases b with
 |true=>
  obtain⟨N,hN,q2⟩:=q2
  rw[if_pos rfl]
  refine wpAny_passesOwn hp (thn (hb pins s2 σ1 H2 _ I2 q2) fun f s3 q3=>?_)
  cases f with
  |next=>
   obtain⟨σ3,H3,I3,n3⟩:=q3
   obtain⟨m',hm,w3⟩:=hN σ3 H3 n3
   exact⟨m',hm,σ3,H3,I3,w3⟩
  |cont=>
   obtain⟨σ3,H3,I3,n3⟩:=q3
   obtain⟨m',hm,w3⟩:=hN σ3 H3 n3
   exact⟨m',hm,σ3,H3,I3,w3⟩
  |brk=>exact q3
  |ret v=>exact q3
 |false=>
  rw[if_neg Bool.false_ne_true]
  exact wpAny_execs_nil ⟨σ1,H2,I2,q2⟩
end
structure It where
 go:Nat->Hp->Prop
 yld:Nat->Hp->V->Hp->Prop
 stop:Nat->Hp->Prop
def V6 (X:Cx) (pins:List (Addr×Obj)) (H:Hp) (b:Addr):Prop:=
 H b=none∧b≠X.env.locals∧b∉X.fs∧(b∈X.ex∨X.s₀.heap.objs.size≤b)∧(∀x c,X.env.cells.lookup x=some c->c≠b)∧∀p∈X.pn ++ pins,p.1≠b
theorem Inv.fpOk {X:Cx} {pins:List (Addr×Obj)} {σ:St} {H H':Hp} {s:Shared} {b:Addr} (I:Inv X pins σ H s) (hb:s.heap.objs.size≤b) (hn:H' b=none):V6 X pins H' b:=by
 refine⟨hn,Nat.ne_of_gt (Nat.lt_of_lt_of_le I.lt hb),I.nofs hb,.inr (Nat.le_trans I.sz hb),fun x c e z=>?_,fun p hp z=>?_⟩
 .obtain⟨v,q⟩:=I.cell x c e
  exact absurd (Nat.lt_of_lt_of_le q.lt (by rw[z];exact hb)) (Nat.lt_irrefl _)
 .exact absurd (Nat.lt_of_lt_of_le (Heap.lt_size (I.pin p hp).1) (by rw[z];exact hb)) (Nat.lt_irrefl _)
structure Turn (P:Program) (w:World) (K:PySem.W.Frag) (tg:Expr) (J:It) (fp:List Addr) (it:Addr) (tn:Nat->Heap->Prop):Prop where
 mem:it∈fp
 obj:∀i h,tn i h->∀b∈fp,∃o,h.get? b=some o∧∀v,o.data≠.cell v
 keep:∀i h h',tn i h->(∀b∈fp,∀o,h.get? b=some o->h'.get? b=some o)->tn i h'
 item:∀(X:Cx),X.prog=P->X.w=w->X.K=K->X.calm=true->∀(i:Nat) (pins:List (Addr×Obj)) (s:Shared) (σ:St) (H:Hp) (E:Value->Shared->Prop),Inv X pins σ H s->(∀b∈fp,V6 X pins H b)->tn i s.heap->J.go i H->
  wpAny (model P w) X.A (pyNext (.ref it)) (fun r s1=>∃u,r=some u∧
   wpAny (model P w) X.A (letOwnedTupleGo tg (.ref it) u) (fun _ s2=>∃x H',Inv X pins σ H' s2∧RelV x u∧J.yld i H x H'∧tn (i+1) s2.heap∧∀b∈fp,H' b=none) E s1) E s
 done:∀(X:Cx),X.prog=P->X.w=w->X.K=K->X.calm=true->∀(i:Nat) (pins:List (Addr×Obj)) (s:Shared) (σ:St) (H:Hp) (E:Value->Shared->Prop),Inv X pins σ H s->(∀b∈fp,V6 X pins H b)->tn i s.heap->J.stop i H->
  wpAny (model P w) X.A (pyNext (.ref it)) (fun r s1=>r=none∧Inv X pins σ H s1) E s
 self:∀(A:Around) (i:Nat) (s:Shared) (Q:Value->Shared->Prop) (E:Value->Shared->Prop),tn i s.heap->Q (.ref it) s->wpAny (model P w) A (pyIter (.ref it)) Q E s
abbrev TI:=St->Hp->(It->Hp->Prop)->Prop
def PIE (X:Cx) (pins:List (Addr×Obj)) (σ:St) (tg:Expr) (R:It->Hp->Prop) (itv:Value) (s2:Shared):Prop:=
 ∃(it:Addr) (fp:List Addr) (tn:Nat->Heap->Prop) (J:It) (H':Hp),itv=.ref it∧Inv X pins σ H' s2∧Turn X.prog X.w X.K tg J fp it tn∧tn 0 s2.heap∧(∀b∈fp,V6 X pins H' b)∧R J H'
def PI (X:Cx) (tg iter:Expr) (wi:TI):Prop:=
 ∀(pins:List (Addr×Obj)) (s:Shared) (σ:St) (H:Hp) (R:It->Hp->Prop),Inv X pins σ H s->wi σ H R->
  wpAny (model X.prog X.w) X.A (eval iter X.env) (fun v s1=>wpAny (model X.prog X.w) X.A (pyIter v) (PIE X pins σ tg R) X.xe s1) X.xe s
theorem Ag8 {M:Model} {A:Around} {E:Value->Shared->Prop} {s:Shared} {tg:Expr} {it:Addr} {u:Value} {o:Obj} {n:String} {vs:Array Value} {Q:Unit->Shared->Prop} (ho:s.heap.get? it=some o) (hc:o.cls=.type n) (hd:o.data=.fields vs)
  (hn:["enumerate","zip","dict_itemiterator","dict_reverseitemiterator","odict_iterator","itertools.zip_longest","itertools.pairwise"].contains n=false) (hQ:Q () s):wpAny M A (letOwnedTupleGo tg (.ref it) u) Q E s:=by
 unfold letOwnedTupleGo
 cases tg <;> first
  |exact wpAny_pure hQ
  |(cases u <;> first
    |exact wpAny_pure hQ
    |(refine wpAny_bind (wpAny_load ho ?_);rw[hc,hd];show wpAny M A (if (["enumerate","zip","dict_itemiterator","dict_reverseitemiterator","odict_iterator","itertools.zip_longest","itertools.pairwise"].contains n&&vs[0]?==some (rawInt _))=true then _ else _) Q E s;rw[if_neg (by intro h;rw[hn,Bool.false_and] at h;cases h)];exact wpAny_pure hQ))
def Itl (K:PySem.W.Frag) (a:Addr):It:=
 ⟨fun i H=>∃xs x,SqL K H a xs∧xs[i]?=some x,fun i H x H'=>H'=H∧∀xs,SqL K H a xs->xs[i]?=some x,fun i H=>∃xs,SqL K H a xs∧xs.length≤i⟩
def Itt (K:PySem.W.Frag) (a:Addr):It:=
 ⟨fun i H=>∃xs x,SqT K H a xs∧xs[i]?=some x,fun i H x H'=>H'=H∧∀xs,SqT K H a xs->xs[i]?=some x,fun i H=>∃xs,SqT K H a xs∧xs.length≤i⟩
def Itr (lo:Int) (n:Nat):It:=⟨fun i _=>i < n,fun i H x H'=>H'=H∧x=.int (lo+i),fun i _=>n≤i⟩
theorem Aix {P:Program} {w:World} {K:PySem.W.Frag} {tg:Expr} (a it:Addr):Turn P w K tg (Itl K a) [it] it (fun i h=>h.IsListIter it a i) where
 mem:=by simp
 obj:=fun i h st b hb=>by
  have e:b=it:=by simpa using hb
  subst e
  obtain⟨o,e,c,d⟩:=st
  exact⟨o,e,fun v z=>by rw[d] at z;cases z⟩
 keep:=fun i h h' st k=>st.at fun o e=>k it (by simp) o e
 item:=by
  intro X hP hw hK hc i pins s σ H E I hf st hg
  subst hP hw hK
  obtain⟨xs,x,hq,hx⟩:=hg
  obtain⟨its,rv,p,hz⟩:=I.list hq
  obtain⟨u,hu,ru⟩:=rv.get hx
  obtain⟨f0,f1,f2,f3,f4,f5⟩:=hf it (by simp)
  refine wpAny_pyNext_list_item st p.isList (x:=u) (by simpa using hu) fun h' st' sb=>?_
  have I1:Inv X pins σ H { s with heap:=h' }:=I.turned (t':=s.toks) (fun b o hb e=>(sb.2 b hb).trans e) f0 f1 f3 f4 f5
  obtain⟨o,e,c,d⟩:=id st'
  exact⟨u,rfl,Ag8 (s:={ s with heap:=h' }) e c d (by decide) ⟨x,H,I1,ru,⟨rfl,fun ys hy=>by rw[I.list_inj hy hq];exact hx⟩,st',fun b hb=>(hf b hb).1⟩⟩
 done:=by
  intro X hP hw hK hc i pins s σ H E I hf st hg
  subst hP hw hK
  obtain⟨xs,hq,hx⟩:=hg
  obtain⟨its,rv,p,hz⟩:=I.list hq
  obtain⟨f0,f1,f2,f3,f4,f5⟩:=hf it (by simp)
  have hl:=rv.length
  exact wpAny_pyNext_list_end (I.ok.hd hc) st p.isList (by simp;omega) fun h' eb=>⟨rfl,I.turned (t':=s.toks) (fun b o hb e=>eb b o hb e) f0 f1 f3 f4 f5⟩
 self:=fun _ _ _ _ _ st h=>wpAny_pyIter_listiter st h
theorem Ae9 {P:Program} {w:World} {K:PySem.W.Frag} {tg:Expr} (a it:Addr):Turn P w K tg (Itt K a) [it] it (fun i h=>h.IsTupleIter it a i) where
 mem:=by simp
 obj:=fun i h st b hb=>by
  have e:b=it:=by simpa using hb
  subst e
  obtain⟨o,e,c,d⟩:=st
  exact⟨o,e,fun v z=>by rw[d] at z;cases z⟩
 keep:=fun i h h' st k=>st.at fun o e=>k it (by simp) o e
 item:=by
  intro X hP hw hK hc i pins s σ H E I hf st hg
  subst hP hw hK
  obtain⟨xs,x,hq,hx⟩:=hg
  obtain⟨its,rv,p,hz⟩:=I.tuple hq
  obtain⟨u,hu,ru⟩:=rv.get hx
  obtain⟨f0,f1,f2,f3,f4,f5⟩:=hf it (by simp)
  refine wpAny_pyNext_tuple_item st (show s.heap.IsTuple a its.toArray from p) (x:=u) (by simpa using hu) fun h' st' sb=>?_
  have I1:Inv X pins σ H { s with heap:=h' }:=I.turned (t':=s.toks) (fun b o hb e=>(sb.2 b hb).trans e) f0 f1 f3 f4 f5
  obtain⟨o,e,c,d⟩:=id st'
  exact⟨u,rfl,Ag8 (s:={ s with heap:=h' }) e c d (by decide) ⟨x,H,I1,ru,⟨rfl,fun ys hy=>by rw[I.tuple_inj hy hq];exact hx⟩,st',fun b hb=>(hf b hb).1⟩⟩
 done:=by
  intro X hP hw hK hc i pins s σ H E I hf st hg
  subst hP hw hK
  obtain⟨xs,hq,hx⟩:=hg
  obtain⟨its,rv,p,hz⟩:=I.tuple hq
  obtain⟨f0,f1,f2,f3,f4,f5⟩:=hf it (by simp)
  have hl:=rv.length
  exact wpAny_pyNext_tuple_end (I.ok.hd hc) st (show s.heap.IsTuple a its.toArray from p) (by simp;omega) fun h' eb=>⟨rfl,I.turned (t':=s.toks) (fun b o hb e=>eb b o hb e) f0 f1 f3 f4 f5⟩
 self:=fun _ _ _ _ _ st h=>wpAny_pyIter_tupleiter st h
theorem Afa {P:Program} {w:World} {K:PySem.W.Frag} {tg:Expr} (it:Addr) (lo:Int) (n:Nat):Turn P w K tg (Itr lo n) [it] it (fun i h=>IsRangeIter h it (lo+(i:Nat) * 1) ((n:Int) - (i:Nat)) 1) where
 mem:=by simp
 obj:=fun i h st b hb=>by
  have e:b=it:=by simpa using hb
  subst e
  exact⟨_,st,fun v z=>by
   have z':Data.fields _=Data.cell v:=z
   cases z'⟩
 keep:=fun i h h' st k=>k it (by simp) _ st
 item:=by
  intro X hP hw hK hc i pins s σ H E I hf st hg
  subst hP hw hK
  obtain⟨f0,f1,f2,f3,f4,f5⟩:=hf it (by simp)
  have W:=Walks.range (prog:=X.prog) (w:=X.w) (I.ok.hd hc) it lo 1 n
  refine W.item i s _ _ hg st fun v h' tk hv st' kk=>?_
  obtain⟨t,rfl⟩:=hv
  have I1:Inv X pins σ H { s with heap:=h',toks:=tk }:=I.turned (fun b o hb e=>kk b o (by simpa using hb) e) f0 f1 f3 f4 f5
  refine⟨_,rfl,Ag8 (s:={ s with heap:=h',toks:=tk }) (n:="range_iterator") st' rfl rfl (by decide) ⟨.int (lo+i),H,I1,⟨t,?_⟩,⟨rfl,rfl⟩,st',fun b hb=>(hf b hb).1⟩⟩
  rw[Int.mul_one]
 done:=by
  intro X hP hw hK hc i pins s σ H E I hf st hg
  subst hP hw hK
  obtain⟨f0,f1,f2,f3,f4,f5⟩:=hf it (by simp)
  exact wpAny_pyNext_range_end (I.ok.hd hc) st (by have:n≤i:=hg;omega) fun h' eb=>⟨rfl,I.turned (t':=s.toks) (fun b o hb e=>eb b o hb e) f0 f1 f3 f4 f5⟩
 self:=fun _ _ _ _ _ st h=>wpAny_pyIter_rangeiter st h
section
variable {X:Cx} {tg:Expr}
def Atx (K:PySem.W.Frag) (tl:TE):TI:=fun σ H R=>tl σ H fun x H1=>∃a,x=.ref a∧(∃xs,SqL K H1 a xs)∧R (Itl K a) H1
def Ayq (K:PySem.W.Frag) (tl:TE):TI:=fun σ H R=>tl σ H fun x H1=>∃a,x=.ref a∧(∃xs,SqT K H1 a xs)∧R (Itt K a) H1
theorem Apg {l:Expr} {tl:TE} (hl:PE X l tl):PI X tg l (Atx X.K tl):=by
 intro pins s σ H R I h
 refine thn (hl pins s σ H _ I h) fun v s1 ⟨x,H1,I1,r1,q1⟩=>?_
 obtain⟨a,e,⟨xs,hq⟩,q⟩:=q1
 subst e
 cases r1
 obtain⟨its,rv,p,hz⟩:=I1.list hq
 refine wpAny_pyIter_list p.isList ?_
 refine⟨s1.heap.objs.size,[s1.heap.objs.size],_,_,H1,rfl,I1.kept (t':=s1.toks) fun b o e=>Heap.get?_push_of_some _ e,Aix a _,⟨_,Heap.get?_push_size _ rfl,rfl,rfl⟩,fun b hb=>?_,q⟩
 have e:b=s1.heap.objs.size:=by simpa using hb
 subst e
 exact I1.fpOk (Nat.le_refl _) (I1.hok.fresh (Nat.le_refl _))
theorem Au2 {l:Expr} {tl:TE} (hl:PE X l tl):PI X tg l (Ayq X.K tl):=by
 intro pins s σ H R I h
 refine thn (hl pins s σ H _ I h) fun v s1 ⟨x,H1,I1,r1,q1⟩=>?_
 obtain⟨a,e,⟨xs,hq⟩,q⟩:=q1
 subst e
 cases r1
 obtain⟨its,rv,p,hz⟩:=I1.tuple hq
 refine wpAny_pyIter_tuple (show s1.heap.IsTuple a its.toArray from p) ?_
 refine⟨s1.heap.objs.size,[s1.heap.objs.size],_,_,H1,rfl,I1.kept (t':=s1.toks) fun b o e=>Heap.get?_push_of_some _ e,Ae9 a _,⟨_,Heap.get?_push_size _ rfl,rfl,rfl⟩,fun b hb=>?_,q⟩
 have e:b=s1.heap.objs.size:=by simpa using hb
 subst e
 exact I1.fpOk (Nat.le_refl _) (I1.hok.fresh (Nat.le_refl _))
theorem Acr {pins:List (Addr×Obj)} {σ:St} {H:Hp} {s:Shared} {R:It->Hp->Prop} {E:Value->Shared->Prop} {lo hi:Int} {t u v:Tok} {tk:Nat} (I:Inv X pins σ H s) (h1:-(2 ^ 62)≤lo) (h2:lo < 2 ^ 62) (h3:-(2 ^ 62)≤hi) (h4:hi < 2 ^ 62)
  (q:R (Itr lo (hi - lo).toNat) H):wpAny (model X.prog X.w) X.A (pyIter (.ref s.heap.objs.size)) (PIE X pins σ tg R) E { s with heap:=s.heap.push { cls:=.type "range",data:=.fields #[.int lo t,.int hi u,.int 1 v] },toks:=tk }:=by
 refine wpAny_pyIter_range (IsRange.new ..) (small_one h1 h2 h3 h4) ?_
 have I1:Inv X pins σ H { s with heap:=s.heap.push { cls:=.type "range",data:=.fields #[.int lo t,.int hi u,.int 1 v] },toks:=tk }:=I.kept fun b o e=>Heap.get?_push_of_some _ e
 refine⟨(s.heap.push { cls:=.type "range",data:=.fields #[.int lo t,.int hi u,.int 1 v] }).objs.size,[(s.heap.push { cls:=.type "range",data:=.fields #[.int lo t,.int hi u,.int 1 v] }).objs.size],_,_,H,rfl,
  I1.kept (t':=tk) fun b o e=>Heap.get?_push_of_some _ e,Afa _ lo (hi - lo).toNat,?_,fun b hb=>?_,q⟩
 .have e1:lo+((0:Nat):Int) * 1=lo:=by simp
  have e2:(((hi - lo).toNat:Nat):Int) - ((0:Nat):Int)=Builtin.Range.rangeSize lo hi 1:=by rw[rangeSize_one];split <;> omega
  show IsRangeIter _ _ (lo+((0:Nat):Int) * 1) ((((hi - lo).toNat:Nat):Int) - ((0:Nat):Int)) 1
  rw[e1,e2]
  exact Heap.get?_push_size _ rfl
 .have e:b=(s.heap.push { cls:=.type "range",data:=.fields #[.int lo t,.int hi u,.int 1 v] }).objs.size:=by simpa using hb
  subst e
  exact I1.fpOk (Nat.le_refl _) (I1.hok.fresh (Nat.le_refl _))
def Aty (ta:TA):TI:=fun σ H R=>ta σ H fun vs H1=>∃j:Int,vs=[.int j]∧-(2 ^ 62)≤j∧j < 2 ^ 62∧R (Itr 0 j.toNat) H1
def Atz (ta:TA):TI:=fun σ H R=>ta σ H fun vs H1=>∃i j:Int,vs=[.int i,.int j]∧(-(2 ^ 62)≤i∧i < 2 ^ 62∧-(2 ^ 62)≤j∧j < 2 ^ 62)∧R (Itr i (j - i).toNat) H1
theorem Aiy {a:Expr} {ta:TA} {p pos:Pos} (hg:Gl X "range") (hm:X.mg "range"=none) (ha:PA X [a] ta) (hs:starEach [a] X.env=[(false,eval a X.env)]:=by rfl):PI X tg (.Call (.Name "range" p) [a] [] pos) (Aty ta):=by
 intro pins s σ H R I h
 refine Call_ (Py I hg hm boot_range (PyProof.Rows.callWith_type1 (thn (ha pos pins s σ H _ I h) fun us s1 ⟨vs,H1,I1,r1,q1⟩=>?_) hs rfl))
 obtain⟨j,e,q1,q2,q⟩:=q1
 subst e
 cases r1 with
 |cons r rr=>
  cases rr
  obtain⟨t,rfl⟩:=r
  exact call_range_1 (Acr I1 (by omega) (by omega) q1 q2 (by simpa using q))
theorem Aiz {a b:Expr} {ta:TA} {p pos:Pos} (hg:Gl X "range") (hm:X.mg "range"=none) (ha:PA X [a,b] ta) (hs:starEach [a,b] X.env=[(false,eval a X.env),(false,eval b X.env)]:=by rfl) (hs2:starEach [b] X.env=[(false,eval b X.env)]:=by rfl) :
  PI X tg (.Call (.Name "range" p) [a,b] [] pos) (Atz ta):=by
 intro pins s σ H R I h
 refine Call_ (Py I hg hm boot_range (PyProof.Rows.callWith_type1 (thn (ha pos pins s σ H _ I h) fun us s1 ⟨vs,H1,I1,r1,q1⟩=>?_) (by rw[hs,hs2]) (by rw[hs2];rfl)))
 obtain⟨i,j,e,⟨q1,q2,q3,q4⟩,q⟩:=q1
 subst e
 cases r1 with
 |cons r rr=>
  cases rr with
  |cons r' rr=>
   cases rr
   obtain⟨t,rfl⟩:=r
   obtain⟨t',rfl⟩:=r'
   exact call_range_2 (Acr I1 q1 q2 q3 q4 q)
def Bbm (wi:TI) (g:TG) (tb:TS):TS:=fun D σ H=>wi σ H fun J H1=>∃W:Nat->Nat->St->Hp->Prop,(∃m,W 0 m σ H1)∧∀i m σ H,W i m σ H->
 (J.stop i H∧D.nx σ H)∨(J.go i H∧∃N:St->Hp->Prop,(∀σ' H',N σ' H'->∃m',m' < m∧W (i+1) m' σ' H')∧∀x H',J.yld i H x H'->g x σ H' fun σ2 H2=>tb { D with nx:=N,ct:=N,bk:=D.nx } σ2 H2)
def V7 (fp:List Addr) (h:Heap):List (Addr×Obj):=fp.filterMap fun b=>(h.get? b).map fun o=>(b,o)
theorem Jz {fp:List Addr} {h:Heap} {b:Addr} {o:Obj} (hb:b∈fp) (e:h.get? b=some o):(b,o)∈V7 fp h:=List.mem_filterMap.mpr ⟨b,hb,by rw[e];rfl⟩
theorem Ai0 {fp:List Addr} {h:Heap} {p:Addr×Obj} (hp:p∈V7 fp h):p.1∈fp∧h.get? p.1=some p.2:=by
 obtain⟨b,hb,e⟩:=List.mem_filterMap.mp hp
 cases q:h.get? b with
 |none=>rw[q] at e;cases e
 |some o=>
  rw[q] at e
  have e':(b,o)=p:=Option.some.inj e
  subst e'
  exact⟨hb,q⟩
theorem Inv.pinned {pins:List (Addr×Obj)} {σ:St} {H:Hp} {s:Shared} {fp:List Addr} (I:Inv X pins σ H s) (hf:∀b∈fp,V6 X pins H b) (ho:∀b∈fp,∃o,s.heap.get? b=some o∧∀v,o.data≠.cell v):Inv X (pins ++ V7 fp s.heap) σ H s:=
 I.pins_of fun p hp=>(List.mem_append.mp hp).elim (fun z=>I.pin p (List.mem_append_right _ z)) fun z=>by
  obtain⟨hb,e⟩:=Ai0 z
  obtain⟨f0,f1,f2,_⟩:=hf p.1 hb
  obtain⟨o,e',d⟩:=ho p.1 hb
  rw[e] at e';cases e'
  exact⟨e,f0,f1,f2,d⟩
theorem Inv.unpinned {pins pl:List (Addr×Obj)} {σ:St} {H:Hp} {s:Shared} (I:Inv X (pins ++ pl) σ H s):Inv X pins σ H s:=I.pins_of fun p hp=>I.pin p (List.mem_append_right _ (List.mem_append_left _ hp))
theorem Au3 {iter:Expr} {body:List Stmt} {wi:TI} {g:TG} {tb:TS} {pos:Pos} (hp:PassesOwn (model X.prog X.w) X.A X.env X.xe) (hc:X.calm=true) (hi:PI X tg iter wi) (hg:PG X tg g) (hb:PSs X body tb)
  (hs:∀x,foldedSetIterable iter X.env x=pure x:=by intro _;rfl):PS X (.For tg iter body [] pos) (Bbm wi g tb):=by
 intro pins s σ H D I h
 refine wpAny_For (thn (hi pins s σ H _ I h) fun v s1 h1=>thn h1 fun itv s2 h2=>?_) hs
 obtain⟨it,fp,tn,J,H2,e,I2,T,st2,f2,W,⟨m0,w0⟩,turn⟩:=h2
 subst e
 have stat:∀{H':Hp},(∀b∈fp,H' b=none)->∀b∈fp,V6 X pins H' b:=fun hn b hb=>⟨hn b hb,(f2 b hb).2⟩
 refine codeAny_forLoop_any (fun n s'=>∃i σ' H',Inv X pins σ' H' s'∧tn i s'.heap∧(∀b∈fp,H' b=none)∧W i n σ' H') ?_ m0 ⟨0,σ,H2,I2,st2,fun b hb=>(f2 b hb).1,w0⟩
 rintro n s3 ⟨i,σ3,H3,I3,st3,fr3,w3⟩
 rcases turn i n σ3 H3 w3 with ⟨stop,qn⟩|⟨go,N,hN,step⟩
 .refine wpAny_passesOwn hp (thn (T.done X rfl rfl rfl hc i pins s3 σ3 H3 X.xe I3 (stat fr3) st3 stop) fun r s4 ⟨hr,I4⟩=>?_)
  subst hr
  exact wpAny_execs_nil ⟨σ3,H3,I4,qn⟩
 .refine wpAny_passesOwn hp (thn (T.item X rfl rfl rfl hc i pins s3 σ3 H3 X.xe I3 (stat fr3) st3 go) fun r s4 ⟨u,hr,h4⟩=>?_)
  subst hr
  refine wpAny_passesOwn hp (thn h4 fun _ s5 ⟨x,H5,I5,r5,y5,st5,fr5⟩=>?_)
  have I5':=I5.pinned (stat fr5) (T.obj _ _ st5)
  refine wpAny_passesOwn hp (thn (hg _ s5 σ3 H5 x u _ I5' r5 (step x H5 y5)) fun _ s6 ⟨σ6,H6,I6,q6⟩=>?_)
  refine wpAny_passesOwn hp (thn (hb _ s6 σ6 H6 _ I6 q6) fun f s7 q7=>?_)
  have again:∀{σ7:St} {H7:Hp},Inv X (pins ++ V7 fp s5.heap) σ7 H7 s7->N σ7 H7->∃m,m < n∧∃i σ' H',Inv X pins σ' H' s7∧tn i s7.heap∧(∀b∈fp,H' b=none)∧W i m σ' H':=fun {σ7 H7} I7 n7=>by
   obtain⟨m',hm,w7⟩:=hN σ7 H7 n7
   refine⟨m',hm,i+1,σ7,H7,I7.unpinned,T.keep _ _ _ st5 fun b hb o e=>(I7.pin (b,o) (List.mem_append_right _ (List.mem_append_right _ (Jz hb e)))).1,fun b hb=>?_,w7⟩
   obtain⟨o,e,d⟩:=T.obj _ _ st5 b hb
   exact(I7.pin (b,o) (List.mem_append_right _ (List.mem_append_right _ (Jz hb e)))).2.1
  cases f with
  |next=>obtain⟨σ7,H7,I7,n7⟩:=q7;exact again I7 n7
  |cont=>obtain⟨σ7,H7,I7,n7⟩:=q7;exact again I7 n7
  |brk=>obtain⟨σ7,H7,I7,q7⟩:=q7;exact⟨σ7,H7,I7.unpinned,q7⟩
  |ret v=>obtain⟨x7,σ7,H7,I7,r7,q7⟩:=q7;exact⟨x7,σ7,H7,I7.unpinned,r7,q7⟩
end
abbrev R2:=V->V->Hp->VK->Prop
def OpR (X:Cx) (f:Value->Value->Sem Value) (r:R2):Prop:=
 ∀(pins:List (Addr×Obj)) (s:Shared) (σ:St) (H:Hp) (x y:V) (v u:Value) (Q:VK),Inv X pins σ H s->RelV x v->RelV y u->r x y H Q->
  wpAny (model X.prog X.w) X.A (f v u) (EP X pins σ Q) X.xe s
def UnR (X:Cx) (f:Value->Sem Value) (r:V->Hp->VK->Prop):Prop:=
 ∀(pins:List (Addr×Obj)) (s:Shared) (σ:St) (H:Hp) (x:V) (v:Value) (Q:VK),Inv X pins σ H s->RelV x v->r x H Q->
  wpAny (model X.prog X.w) X.A (f v) (EP X pins σ Q) X.xe s
def Gw (X:Cx) (f:Value) (r:List V->Hp->VK->Prop):Prop:=
 ∀(pins:List (Addr×Obj)) (s:Shared) (σ:St) (H:Hp) (xs:List V) (us:List Value) (Q:VK),Inv X pins σ H s->Vals xs us->r xs H Q->
  wpAny (model X.prog X.w) X.A (call f us) (EP X pins σ Q) X.xe s
def Bbn (X:Cx) (r:V->Hp->(Bool->Hp->Prop)->Prop):Prop:=
 ∀(pins:List (Addr×Obj)) (s:Shared) (σ:St) (H:Hp) (x:V) (v:Value) (Q:Bool->Hp->Prop),Inv X pins σ H s->RelV x v->r x H Q->
  wpAny (model X.prog X.w) X.A (truthy v) (TP X pins σ Q) X.xe s
def tOp (r:R2) (ta tb:TE):TE:=fun σ H Q=>ta σ H fun x H1=>tb σ H1 fun y H2=>r x y H2 Q
def tUn (r:V->Hp->VK->Prop) (ta:TE):TE:=fun σ H Q=>ta σ H fun x H1=>r x H1 Q
def rI (C:Int->Int->Prop) (g:Int->Int->V):R2:=fun x y H Q=>∃i j,x=.int i∧y=.int j∧C i j∧Q (g i j) H
def rI0 (g:Int->Int->V):R2:=fun x y H Q=>∃i j,x=.int i∧y=.int j∧Q (g i j) H
def rU (g:Int->V):V->Hp->VK->Prop:=fun x H Q=>∃i,x=.int i∧Q (g i) H
section
variable {X:Cx} {a b c:Expr} {ta tb tc:TE} {pos:Pos}
theorem Au4 (ha:PE X a ta) (hb:PE X b tb) {pins:List (Addr×Obj)} {s:Shared} {σ:St} {H:Hp} {R:V->V->Hp->Prop} (I:Inv X pins σ H s)
  (h:ta σ H fun x H1=>tb σ H1 fun y H2=>R x y H2) {Q:Value->Shared->Prop} {f:Value->Value->Sem Value}
  (hf:∀v u s2 x y H2,Inv X pins σ H2 s2->RelV x v->RelV y u->R x y H2->wpAny (model X.prog X.w) X.A (f v u) Q X.xe s2) :
  wpAny (model X.prog X.w) X.A (eval a X.env) (fun v s₁=>wpAny (model X.prog X.w) X.A (eval b X.env) (fun u s₂=>wpAny (model X.prog X.w) X.A (f v u) Q X.xe s₂) X.xe s₁) X.xe s:=by
 refine thn (ha pins s σ H _ I h) fun v s1 ⟨x,H1,I1,r1,q1⟩=>?_
 refine thn (hb pins s1 σ H1 _ I1 q1) fun u s2 ⟨y,H2,I2,r2,q2⟩=>?_
 exact hf v u s2 x y H2 I2 r1 r2 q2
theorem Ayr {op:Operator} {r:R2} (ho:OpR X (binaryOp op) r) (ha:PE X a ta) (hb:PE X b tb):PE X (.BinOp a op b pos) (tOp r ta tb):=by
 intro pins s σ H Q I h
 exact wpAny_BinOp (Au4 ha hb I h fun v u s2 x y H2 I2 rx ry q=>ho pins s2 σ H2 x y v u Q I2 rx ry q)
theorem Ays {op:UnaryOp} {r:V->Hp->VK->Prop} (ho:UnR X (unaryOp op) r) (ha:PE X a ta):PE X (.UnaryOp op a pos) (tUn r ta):=by
 intro pins s σ H Q I h
 exact UnaryOp_ (thn (ha pins s σ H _ I h) fun v s1 ⟨x,H1,I1,r1,q1⟩=>ho pins s1 σ H1 x v Q I1 r1 q1)
theorem opI {f:Value->Value->Sem Value} {C:Int->Int->Prop} {g:Int->Int->Int}
  (rule:∀(i j:Int) (t u:Tok) (s:Shared) (Q:Value->Shared->Prop) (E:Value->Shared->Prop),C i j->Q (.int (g i j) s.toks) { s with toks:=s.toks+1 }->wpAny (model X.prog X.w) X.A (f (.int i t) (.int j u)) Q E s) :
  OpR X f (rI C fun i j=>.int (g i j)):=by
 intro pins s σ H x y v u Q I rx ry h
 obtain⟨i,j,rfl,rfl,hc,q⟩:=h
 obtain⟨t,rfl⟩:=rx
 obtain⟨t',rfl⟩:=ry
 exact rule i j t t' s _ _ hc ⟨.int (g i j),H,I.tok _,⟨_,rfl⟩,q⟩
theorem Au5 {f:Value->Value->Sem Value} {g:Int->Int->Int}
  (rule:∀(i j:Int) (t u:Tok) (s:Shared) (Q:Value->Shared->Prop) (E:Value->Shared->Prop),Q (.int (g i j) s.toks) { s with toks:=s.toks+1 }->wpAny (model X.prog X.w) X.A (f (.int i t) (.int j u)) Q E s) :
  OpR X f (rI0 fun i j=>.int (g i j)):=by
 intro pins s σ H x y v u Q I rx ry h
 obtain⟨i,j,rfl,rfl,q⟩:=h
 obtain⟨t,rfl⟩:=rx
 obtain⟨t',rfl⟩:=ry
 exact rule i j t t' s _ _ ⟨.int (g i j),H,I.tok _,⟨_,rfl⟩,q⟩
theorem Aph {f:Value->Value->Sem Value} {g:Int->Int->Bool}
  (rule:∀(i j:Int) (t u:Tok) (s:Shared) (Q:Value->Shared->Prop) (E:Value->Shared->Prop),Q (.bool (g i j)) s->wpAny (model X.prog X.w) X.A (f (.int i t) (.int j u)) Q E s) :
  OpR X f (rI0 fun i j=>.bl (g i j)):=by
 intro pins s σ H x y v u Q I rx ry h
 obtain⟨i,j,rfl,rfl,q⟩:=h
 obtain⟨t,rfl⟩:=rx
 obtain⟨t',rfl⟩:=ry
 exact rule i j t t' s _ _ ⟨.bl (g i j),H,I,rfl,q⟩
def Ayt (i j:Int):Prop:=0 < j∧j < 1073741824
def Ayu (i j:Int):Prop:=0≤j∧j≤1000000∧i.natAbs < 2 ^ 64
def Api (i j:Int):Prop:=(-(2 ^ 64) < i∧i < 2 ^ 64)∨(-(2 ^ 64) < j∧j < 2 ^ 64)
theorem Api.ok {i j:Int} (h:Api i j):IntMulOk i j:=by
 rcases h with ⟨h1,h2⟩|⟨h1,h2⟩
 .exact .of_left (intBits_le_64 h1 h2)
 .exact .of_right (intBits_le_64 h1 h2)
theorem Afb (k:Nat):(0:Int)≤2 ^ k:=by
 rw[two_pow_cast]
 exact Int.natCast_nonneg _
theorem Au6:OpR X (binaryOp .Add) (rI0 fun i j=>.int (i+j)):=Au5 fun _ _ _ _ _ _ _ q=>add_int q
theorem Au7:OpR X (binaryOp .Sub) (rI0 fun i j=>.int (i - j)):=Au5 fun _ _ _ _ _ _ _ q=>sub_int q
theorem Au8:OpR X (binaryOp .Mult) (rI Api fun i j=>.int (i * j)):=opI fun _ _ _ _ _ _ _ hc q=>mul_int q hc.ok
theorem Apj:OpR X (binaryOp .FloorDiv) (rI Ayt fun i j=>.int (i / j)):=opI fun i j _ _ _ _ _ hc q=>by
 have h1:(0:Int) < j:=hc.1
 have h2:j < 1073741824:=hc.2
 exact floordiv_int (by omega) (by rw[Int.fdiv_eq_ediv_of_nonneg i (by omega)];exact q) (.inl (PyProof.noPylong_small (by omega)))
theorem Au9:OpR X (binaryOp .Mod) (rI (fun _ j=>0 < j) fun i j=>.int (i % j)):=opI fun i j _ _ _ _ _ hc q=>by
 have h1:(0:Int) < j:=hc
 exact mod_int' (by omega) (by rw[Int.fmod_eq_emod_of_nonneg i (by omega)];exact q)
theorem Ava:OpR X (binaryOp .LShift) (rI Ayu fun i j=>.int (i * 2 ^ j.toNat)):=opI fun _ _ _ _ _ _ _ hc q=>lshift_int_small hc.1 hc.2.1 hc.2.2 q
theorem Avb:OpR X (binaryOp .RShift) (rI (fun _ j=>0≤j) fun i j=>.int (i / 2 ^ j.toNat)):=opI fun i j _ _ _ _ _ hc q=>
 rshift_int hc (by rw[Int.fdiv_eq_ediv_of_nonneg i (Afb _)];exact q)
theorem Avc:OpR X (binaryOp .BitAnd) (rI0 fun i j=>.int (Builtin.bitAnd i j)):=Au5 fun _ _ _ _ _ _ _ q=>and_int q
theorem unI {f:Value->Sem Value} {g:Int->Int}
  (rule:∀(i:Int) (t:Tok) (s:Shared) (Q:Value->Shared->Prop) (E:Value->Shared->Prop),Q (.int (g i) s.toks) { s with toks:=s.toks+1 }->wpAny (model X.prog X.w) X.A (f (.int i t)) Q E s) :
  UnR X f (rU fun i=>.int (g i)):=by
 intro pins s σ H x v Q I rx h
 obtain⟨i,rfl,q⟩:=h
 obtain⟨t,rfl⟩:=rx
 exact rule i t s _ _ ⟨.int (g i),H,I.tok _,⟨_,rfl⟩,q⟩
theorem Avd:UnR X (unaryOp .USub) (rU fun i=>.int (-i)):=unI fun _ _ _ _ _ q=>neg_int q
end
section
variable {X:Cx} {a b c:Expr} {ta tb tc:TE} {pos:Pos}
theorem Pz {pins:List (Addr×Obj)} {σ:St} {H:Hp} {s:Shared} {Q:VK} {k k':Bool} (I:Inv X pins σ H s) (q:Q (.bl k) H) (e:k=k'):EP X pins σ Q (.bool k') s:=by
 subst e
 exact⟨.bl k,H,I,rfl,q⟩
theorem Ayv:OpR X (compareOp .Lt) (rI0 fun i j=>.bl (decide (i < j))):=Aph fun _ _ _ _ _ _ _ q=>lt_int q
theorem Ayw:OpR X (compareOp .LtE) (rI0 fun i j=>.bl (decide (i≤j))):=Aph fun _ _ _ _ _ _ _ q=>le_int q
theorem Ayx:OpR X (compareOp .Gt) (rI0 fun i j=>.bl (decide (j < i))):=Aph fun _ _ _ _ _ _ _ q=>gt_int q
theorem Ayy:OpR X (compareOp .GtE) (rI0 fun i j=>.bl (decide (j≤i))):=Aph fun _ _ _ _ _ _ _ q=>ge_int q
theorem Ai1:OpR X (compareOp .Lt) (fun x y H Q=>∃i j,x=.str i∧y=.str j∧Q (.bl (decide (i.cps.toList < j.cps.toList))) H):=by
 intro pins s σ H x y v u Q I rx ry h
 obtain⟨i,j,rfl,rfl,q⟩:=h
 obtain⟨t,rfl⟩:=rx
 obtain⟨t',rfl⟩:=ry
 exact lt_str (Pz I q rfl)
theorem Ai2:OpR X (compareOp .In) (fun x y H Q=>∃i j,x=.str i∧y=.str j∧Q (.bl (!(Builtin.Str.occurrences j i 0 j.length 1).isEmpty)) H):=by
 intro pins s σ H x y v u Q I rx ry h
 obtain⟨i,j,rfl,rfl,q⟩:=h
 obtain⟨t,rfl⟩:=rx
 obtain⟨t',rfl⟩:=ry
 exact in_str (Pz I q rfl)
theorem OpR.or {f:Value->Value->Sem Value} {r r':R2} (h:OpR X f r) (h':OpR X f r'):OpR X f (fun x y H Q=>r x y H Q∨r' x y H Q):=by
 intro pins s σ H x y v u Q I rx ry q
 rcases q with q|q
 .exact h pins s σ H x y v u Q I rx ry q
 .exact h' pins s σ H x y v u Q I rx ry q
theorem Bbo (b:Expr) {op:CmpOp} (h:op≠.In:=by decide) (h2:op≠.NotIn:=by decide):behindInMarks op b=false:=by
 have e1:(op==CmpOp.In)=false:=by cases op <;> first|rfl|exact absurd rfl h
 have e2:(op==CmpOp.NotIn)=false:=by cases op <;> first|rfl|exact absurd rfl h2
 cases b <;> simp[behindInMarks,e1,e2]
theorem Apk {op:CmpOp} {r:R2} (ho:OpR X (compareOp op) r) (ha:PE X a ta) (hb:PE X b tb) (hm:behindInMarks op b=false):PE X (.Compare a [op] [b] pos) (tOp r ta tb):=by
 intro pins s σ H Q I h
 exact wpAny_Compare1 (Au4 ha hb I h fun v u s2 x y H2 I2 rx ry q=>ho pins s2 σ H2 x y v u Q I2 rx ry q) hm
def Ag9 (t:TE):TT:=fun σ H Q=>t σ H fun x H'=>∃k,x=.bl k∧Q k H'
theorem Apl {op:CmpOp} {r:R2} (ho:OpR X (compareOp op) r) (ha:PE X a ta) (hb:PE X b tb) (hm:behindInMarks op b=false):PT X (.Compare a [op] [b] pos) (Ag9 (tOp r ta tb)):=by
 intro pins s σ H Q I h
 refine wpAny_isTrue_Compare1 (thn (ha pins s σ H _ I h) fun v s1 ⟨x,H1,I1,r1,q1⟩=>thn (hb pins s1 σ H1 _ I1 q1) fun u s2 ⟨y,H2,I2,r2,q2⟩=>
  thn (ho pins s2 σ H2 x y v u _ I2 r1 r2 q2) fun c s3 ⟨z,H3,I3,r3,k,e,q3⟩=>?_) hm
 subst e
 cases r3
 exact wpAny_truthy_bool ⟨H3,I3,q3⟩
def V8 (r r':R2) (ta tb tc:TE):TE:=fun σ H Q=>ta σ H fun x H1=>tb σ H1 fun y H2=>r x y H2 fun z H3=>∃k,z=.bl k∧
 (if k=true then tc σ H3 fun w' H4=>r' y w' H4 Q else Q (.bl false) H3)
theorem Alc {op op':CmpOp} {r r':R2} (ho:OpR X (compareOp op) r) (ho':OpR X (compareOp op') r') (ha:PE X a ta) (hb:PE X b tb) (hc:PE X c tc)
  (hm:lastMarks [op,op'] [b,c]=false:=by with_unfolding_all rfl):PE X (.Compare a [op,op'] [b,c] pos) (V8 r r' ta tb tc):=by
 intro pins s σ H Q I h
 refine Compare_chain (thn (ha pins s σ H _ I h) fun v s1 ⟨x,H1,I1,r1,q1⟩=>chain_link (thn (hb pins s1 σ H1 _ I1 q1) fun u s2 ⟨y,H2,I2,r2,q2⟩=>
  thn (ho pins s2 σ H2 x y v u _ I2 r1 r2 q2) fun d s3 ⟨z,H3,I3,r3,k,e,q3⟩=>?_)) hm
 subst e
 cases r3
 refine wpAny_truthy_bool ?_
 cases k with
 |false=>exact ite_ff ⟨.bl false,H3,I3,rfl,q3⟩
 |true=>exact ite_tt (chain_last (thn (hc pins s3 σ H3 _ I3 q3) fun w' s4 ⟨z',H4,I4,r4,q4⟩=>ho' pins s4 σ H4 y z' u w' Q I4 r2 r4 q4))
theorem Ald {op op':CmpOp} {r r':R2} (ho:OpR X (compareOp op) r) (ho':OpR X (compareOp op') r') (ha:PE X a ta) (hb:PE X b tb) (hc:PE X c tc)
  (hm:lastMarks [op,op'] [b,c]=false:=by with_unfolding_all rfl):PT X (.Compare a [op,op'] [b,c] pos) (Ag9 (V8 r r' ta tb tc)):=by
 intro pins s σ H Q I h
 refine isTrue_chain (thn (ha pins s σ H _ I h) fun v s1 ⟨x,H1,I1,r1,q1⟩=>test_link (thn (hb pins s1 σ H1 _ I1 q1) fun u s2 ⟨y,H2,I2,r2,q2⟩=>
  thn (ho pins s2 σ H2 x y v u _ I2 r1 r2 q2) fun d s3 ⟨z,H3,I3,r3,k,e,q3⟩=>?_)) hm
 subst e
 cases r3
 refine wpAny_truthy_bool ?_
 cases k with
 |false=>
  obtain⟨k',e',q'⟩:=q3
  cases e'
  exact ite_ff ⟨H3,I3,q'⟩
 |true=>
  refine ite_tt (test_last (thn (hc pins s3 σ H3 _ I3 q3) fun w' s4 ⟨z',H4,I4,r4,q4⟩=>thn (ho' pins s4 σ H4 y z' u w' _ I4 r2 r4 q4) fun d' s5 ⟨z2,H5,I5,r5,k2,e2,q5⟩=>?_))
  subst e2
  cases r5
  exact wpAny_truthy_bool ⟨H5,I5,q5⟩
def Bbp (K:PySem.W.Frag) (x:V) (H:Hp) (k:Bool):Prop:=
 match x with
 |.non=>k=false
 |.bl b=>k=b
 |.int i=>k=(i != 0)
 |.str y=>y.length≤sizeLine∧k=((y.length:Int) != 0)
 |.byt y=>y.size≤sizeLine∧k=((y.size:Int) != 0)
 |.ref p=>(∃xs,SqL K H p xs∧k=!xs.isEmpty)∨(∃xs,SqT K H p xs∧k=!xs.isEmpty)∨∃kvs,H p=some (.dK kvs)∧k=!kvs.isEmpty
 |_=>False
theorem Afc {κ:Type} {kvs:List (κ×V)} {vs:List (κ×Value)} (r:KV kvs vs):(!vs.isEmpty)=!kvs.isEmpty:=by
 cases r <;> rfl
theorem V9 {xs:List V} {its:List Value} (r:Vals xs its):(!its.toArray.isEmpty)=!xs.isEmpty:=by
 cases r <;> simp
theorem R7:(sizeLine:Nat) < 2 ^ 63:=by rw[sizeLine_eq];decide
theorem Bbq:Bbn X (fun x H Q=>∃k,Bbp X.K x H k∧Q k H):=by
 intro pins s σ H x v Q I rx h
 obtain⟨k,e,q⟩:=h
 have hl:=R7
 have hs:sizeLine=16777216:=sizeLine_eq
 cases x with
 |non=>
  cases rx
  have e':k=false:=e
  subst e'
  exact truthy_none ⟨H,I,q⟩
 |bl b=>
  cases rx
  have e':k=b:=e
  subst e'
  exact wpAny_truthy_bool ⟨H,I,q⟩
 |int i=>
  obtain⟨t,rfl⟩:=rx
  have e':k=(i != 0):=e
  subst e'
  exact PySem.P.truthy_int ⟨H,I,q⟩
 |str y=>
  obtain⟨t,rfl⟩:=rx
  obtain⟨hy,e'⟩:y.length≤sizeLine∧k=((y.length:Int) != 0):=e
  subst e'
  exact PySem.P.truthy_str (by omega) ⟨H,I.tok _,q⟩
 |byt y=>
  obtain⟨t,rfl⟩:=rx
  obtain⟨hy,e'⟩:y.size≤sizeLine∧k=((y.size:Int) != 0):=e
  subst e'
  exact PySem.W.truthy_bytes (by omega) ⟨H,I.tok _,q⟩
 |ref p=>
  cases rx
  have e':(∃xs,SqL X.K H p xs∧k=!xs.isEmpty)∨(∃xs,SqT X.K H p xs∧k=!xs.isEmpty)∨∃kvs,H p=some (.dK kvs)∧k=!kvs.isEmpty:=e
  rcases e' with ⟨xs,hx,e'⟩|⟨xs,hx,e'⟩|⟨kvs,hx,e'⟩
  .subst e'
   obtain⟨its,r,pl,hz⟩:=I.list hx
   have hlen:=r.length
   exact wpAny_truthy_list pl.isList (by simp only[List.size_toArray];omega) ⟨H,I.tok _,by rw[V9 r];exact q⟩
  .subst e'
   obtain⟨its,r,pl,hz⟩:=I.tuple hx
   have hlen:=r.length
   exact truthy_tuple pl (by simp only[List.size_toArray];omega) ⟨H,I.tok _,by rw[V9 r];exact q⟩
  .subst e'
   obtain⟨hz,hS,vs,r,m⟩:kvs.length≤sizeLine∧(p==sysModules)=false∧∃vs,KV kvs vs∧s.heap.DictOf (Ek X.prog X.w) p vs:=I.hok p _ hx
   have hlen:kvs.length=vs.length:=Paired.length r
   exact wpAny_truthy_dict hS m (by omega) ⟨H,I.tok _,by rw[Afc r];exact q⟩
 |_=>exact(show False from e).elim
theorem Afd:OpR X (binaryOp .Add) (fun x y H Q=>∃i j,x=.str i∧y=.str j∧i.length+j.length≤sizeLine∧Q (.str (i ++ j)) H):=by
 intro pins s σ H x y v u Q I rx ry h
 obtain⟨i,j,rfl,rfl,hz,q⟩:=h
 obtain⟨t,rfl⟩:=rx
 obtain⟨t',rfl⟩:=ry
 exact add_str (fun t' tk=>⟨.str (i ++ j),H,I.tok _,⟨_,rfl⟩,q⟩) hz
theorem vals1 {x:V} {us:List Value} (r:Vals [x] us):∃u,us=[u]∧RelV x u:=by
 cases r with
 |cons r1 r2=>cases r2;exact⟨_,rfl,r1⟩
theorem vals2 {x y:V} {us:List Value} (r:Vals [x,y] us):∃u w',us=[u,w']∧RelV x u∧RelV y w':=by
 cases r with
 |cons r1 r2=>
  cases r2 with
  |cons r3 r4=>cases r4;exact⟨_,_,rfl,r1,r3⟩
theorem Ai3 (hc:X.calm=true):Gw X (.builtin "max") (fun xs H Q=>∃i j,xs=[.int i,.int j]∧Q (.int (if j > i then j else i)) H):=by
 intro pins s σ H xs us Q I r h
 obtain⟨i,j,rfl,q⟩:=h
 obtain⟨u,w',rfl,⟨t,rfl⟩,⟨t',rfl⟩⟩:=vals2 r
 refine max_two_ints (I.ok.hd hc) fun h' tk k=>⟨_,H,I.kept k,?_,q⟩
 by_cases hj:j > i
 .rw[if_pos hj,if_pos hj];exact⟨_,rfl⟩
 .rw[if_neg hj,if_neg hj];exact⟨_,rfl⟩
theorem Ale:Gw X (.builtin "ord") (fun xs H Q=>∃x,xs=[.str x]∧x.length=1∧Q (.int (x.cps.getD 0 0:Nat)) H):=by
 intro pins s σ H xs us Q I r h
 obtain⟨x,rfl,hz,q⟩:=h
 obtain⟨u,rfl,t,rfl⟩:=vals1 r
 exact ord_of_one hz ⟨.int _,H,I.tok _,⟨_,rfl⟩,q⟩
def Ayz (K:PySem.W.Frag) (x:V) (H:Hp) (n:Nat):Prop:=
 match x with
 |.str y=>y.length≤sizeLine∧n=y.length
 |.byt y=>y.size≤sizeLine∧n=y.size
 |.ref p=>(∃xs,SqL K H p xs∧n=xs.length)∨∃xs,SqT K H p xs∧n=xs.length
 |_=>False
theorem Alf:Gw X (.builtin "len") (fun xs H Q=>∃x n,xs=[x]∧Ayz X.K x H n∧Q (.int n) H):=by
 intro pins s σ H xs us Q I r h
 obtain⟨x,n,rfl,e,q⟩:=h
 obtain⟨u,rfl,rx⟩:=vals1 r
 have hl:=R7
 have hs:sizeLine=16777216:=sizeLine_eq
 cases x with
 |str y=>
  obtain⟨t,rfl⟩:=rx
  obtain⟨hy,e'⟩:y.length≤sizeLine∧n=y.length:=e
  subst e'
  exact len_str (by omega) ⟨.int _,H,I.tok _,⟨_,rfl⟩,q⟩
 |byt y=>
  obtain⟨t,rfl⟩:=rx
  obtain⟨hy,e'⟩:y.size≤sizeLine∧n=y.size:=e
  subst e'
  exact PySem.W.len_bytes (by omega) ⟨.int _,H,I.tok _,⟨_,rfl⟩,q⟩
 |ref p=>
  cases rx
  have e':(∃xs,SqL X.K H p xs∧n=xs.length)∨∃xs,SqT X.K H p xs∧n=xs.length:=e
  rcases e' with ⟨xs,hx,e'⟩|⟨xs,hx,e'⟩
  .subst e'
   obtain⟨its,r',pl,hz⟩:=I.list hx
   have hlen:=r'.length
   exact Calls.call_len_list pl.isList (by simp only[List.size_toArray];omega) ⟨.int xs.length,H,I.tok _,⟨_,by simp only[List.size_toArray];rw[hlen]⟩,q⟩
  .subst e'
   obtain⟨its,r',pl,hz⟩:=I.tuple hx
   have hlen:=r'.length
   exact len_tuple pl (by simp only[List.size_toArray];omega) ⟨.int xs.length,H,I.tok _,⟨_,by simp only[List.size_toArray];rw[hlen]⟩,q⟩
 |_=>exact(show False from e).elim
end
structure Ave (h:Heap) (x dx C:Addr) (mA:Str->Option Value):Prop where
 obj:h.get? x=some (PySem.W.instObj C dx)
 ns:h.Ns1 dx mA
 ne:dx≠x
theorem Ai4 {h:Heap} {dx:Addr} {mA:Str->Option Value} (n:h.Ns1 dx mA):∃od,h.get? dx=some od∧∀name,PySem.W.lookIn name od=some (mA name):=by
 obtain⟨o,es,ep,ho,hd,hk,_,hm⟩:=n
 refine⟨o,ho,fun name=>?_⟩
 have e:=hm name
 unfold nsFind findBy at e
 rw[←Array.find?_toList] at e
 unfold PySem.W.lookIn
 rw[hd]
 dsimp only
 split
 .rename_i y q
  rw[q] at e
  exact congrArg some e
 .rename_i q
  rw[q] at e
  have a:es.toList.any (·.refKey)=false:=by
   rw[List.any_eq_false]
   intro y hy
   obtain⟨z,t,hkey⟩:=hk y (Array.mem_toList_iff.mp hy)
   simp[DictEntry.refKey,hkey]
  have a':¬ es.toList.any (·.refKey)=true:=by rw[a];exact Bool.false_ne_true
  rw[if_neg a']
  exact congrArg some e
theorem Ave.look {h:Heap} {x dx C:Addr} {mA:Str->Option Value} (I:Ave h x dx C mA):∃od,PySem.W.InstAt h x (PySem.W.instObj C dx) C (some od)∧∀name,PySem.W.lookIn name od=some (mA name):=
 let ⟨od,ho,hl⟩:=Ai4 I.ns
 ⟨od,⟨I.obj,rfl,rfl,ho⟩,hl⟩
theorem V2.some_of {v:V} {o:Option Value} (r:V2 (some v) o):∃u,o=some u∧RelV v u:=by
 cases o with
 |none=>exact(show False from r).elim
 |some u=>exact⟨u,rfl,r⟩
section
variable {P:Program} {w:World} {H H':Hp} {h h':Heap} {a C dx:Addr} {fs fs':List (Str×V)}
theorem Apm (hok:HOk P w H h) (e:H a=some (.ins C dx fs)):∃mA,Ave h a dx C mA∧(∀f,V2 (fs.lookup f) (mA f))∧PySem.Within mA (fs.map (·.1))∧fs.length≤1000∧H dx=some (.own a):=by
 obtain⟨d,z,ne,ob,mA,n,r,q⟩:=(show Dc P w H h a (.ins C dx fs) from hok a _ e)
 exact⟨mA,⟨ob,n,ne⟩,r,q,z,d⟩
end
structure Cls (K:PySem.W.Frag) (C:Addr):Prop where
 pg:PySem.W.plainGet K C Str.empty=true
 hd:PySem.W.hasDictIn K C=true
 po:PySem.W.plainOver K C=true
 sa:PySem.W.findIn K (.ref C) "__setattr__"=some (some (.builtin "object.__setattr__"))
theorem Cls.get {K:PySem.W.Frag} {C:Addr} (c:Cls K C) (f:Str):PySem.W.plainGet K C f=true:=c.pg
section
variable {X:Cx} {o e value:Expr} {f:Str} {pos pos' tpos:Pos} {ta tv:TE}
def Ay0:V->V->Hp->VK->Prop:=fun x y H Q=>∃i j,x=.int i∧y=.int j∧Q (.int (i+j)) H
def Ay1:V->V->Hp->VK->Prop:=fun x y H Q=>∃i j,x=.int i∧y=.int j∧Q (.int (i - j)) H
end
section
variable {X:Cx} {pins:List (Addr×Obj)} {σ:St} {H:Hp} {s:Shared} {A:Around} {E:Value->Shared->Prop} {Q:Value->Shared->Prop} {c:Value} {b:Bool}
inductive R8 (K:PySem.W.Frag) (H:Hp):V->Value->Prop where
 |non:R8 K H .non (.type "NoneType")
 |bl (x:Bool):R8 K H (.bl x) (.type "bool")
 |int (i:Int):R8 K H (.int i) (.type "int")
 |str (x:Str):R8 K H (.str x) (.type "str")
 |flt (x:UInt64):R8 K H (.flt x) (.type "float")
 |lst {a:Addr} {xs:List V} (e:H a=some (.lst xs)):R8 K H (.ref a) (.type "list")
 |frz {a:Addr} {o:Obj} {xs:List V} (e:H a=some (.frz o (.lst xs))):R8 K H (.ref a) (.type "list")
 |tup {a:Addr} {xs:List V} (e:H a=some (.tup xs)):R8 K H (.ref a) (.type "tuple")
 |dK {a:Addr} {kvs:List (Key×V)} (e:H a=some (.dK kvs)):R8 K H (.ref a) (.type "dict")
 |dT {a:Addr} {kvs:List (List Key×V)} (e:H a=some (.dT kvs)):R8 K H (.ref a) (.type "dict")
 |ins {a C dx:Addr} {fs:List (Str×V)} (e:H a=some (.ins C dx fs)) (cl:Cls K C) (ha:PySem.W.findIn K (.ref C) "__class__"=some (some (.builtin "object.__class__")))
   (hn:PySem.W.specialIn K (.builtin "object.__class__") "__get__"=some (some (.builtin "getset_descriptor.__get__"))) (htk:PySem.W.takesIn K (.builtin "object.__class__")=some true)
   (hm:PySem.W.mroIn K C (.type "object")=some true):R8 K H (.ref a) (.ref C)
theorem Ai5 {x:V} {u t:Value} (I:Inv X pins σ H s) (rx:RelV x u) (ty:R8 X.K H x t) (e:PySem.W.kitOne X.K t c=some b) (h:∀tk,Q (.bool b) { s with toks:=tk }) :
  wpAny (model X.prog X.w) A (call (.builtin "isinstance") [u,c]) Q E s:=by
 cases ty with
 |non=>cases (show u=Value.none from rx);exact PySem.W.kia_one PySem.W.kitx_none I.kIn True.intro e (fun z=>nomatch z) h
 |bl y=>cases (show u=Value.bool y from rx);exact PySem.W.kia_one PySem.W.kitx_bool I.kIn True.intro e (fun z=>nomatch z) h
 |int i=>obtain⟨t,q⟩:=(show ∃t,u=Value.int i t from rx);cases q;exact PySem.W.kia_one PySem.W.kitx_int I.kIn True.intro e (fun z=>nomatch z) h
 |str y=>obtain⟨t,q⟩:=(show ∃t,u=Value.str y t from rx);cases q;exact PySem.W.kia_one PySem.W.kitx_str I.kIn True.intro e (fun z=>nomatch z) h
 |flt y=>obtain⟨t,q⟩:=(show ∃t,u=Value.float y t from rx);cases q;exact PySem.W.kia_one PySem.W.kitx_float I.kIn True.intro e (fun z=>nomatch z) h
 |@lst a xs ea=>
  cases (show u=Value.ref a from rx)
  obtain⟨_,_,n,_,h1⟩:=(show Dc X.prog X.w H s.heap a (.lst xs) from I.hok a _ ea)
  exact PySem.W.kia_one PySem.W.kitx_list I.kIn ⟨_,h1,rfl⟩ e (fun z=>nomatch z) h
 |@frz a ob xs ea=>
  cases (show u=Value.ref a from rx)
  obtain⟨_,_,_,n,_,h1⟩:=(show Dc X.prog X.w H s.heap a (.frz ob (.lst xs)) from I.hok a _ ea)
  exact PySem.W.kia_one PySem.W.kitx_list I.kIn ⟨_,h1,rfl⟩ e (fun z=>nomatch z) h
 |@tup a xs ea=>
  cases (show u=Value.ref a from rx)
  obtain⟨_,_,_,p⟩:=(show Dc X.prog X.w H s.heap a (.tup xs) from I.hok a _ ea)
  obtain⟨o,h1,h2,_⟩:=p
  exact PySem.W.kia_one PySem.W.kitx_tuple I.kIn ⟨o,h1,h2⟩ e (fun z=>nomatch z) h
 |@dK a kvs ea=>
  cases (show u=Value.ref a from rx)
  obtain⟨_,_,vs,_,p⟩:=(show Dc X.prog X.w H s.heap a (.dK kvs) from I.hok a _ ea)
  obtain⟨o,es,ep,h1,h2,_⟩:=p
  exact PySem.W.kia_one PySem.W.kitx_dict I.kIn ⟨o,h1,h2.1⟩ e (fun z=>nomatch z) h
 |@dT a kvs ea=>
  cases (show u=Value.ref a from rx)
  obtain⟨_,_,xs,_,o,es,ep,h1,h2,_⟩:=(show Dc X.prog X.w H s.heap a (.dT kvs) from I.hok a _ ea)
  exact PySem.W.kia_one PySem.W.kitx_dict I.kIn ⟨o,h1,h2.1⟩ e (fun z=>nomatch z) h
 |@ins a C dx fs ea cl ha hn htk hm=>
  cases (show u=Value.ref a from rx)
  obtain⟨mA,O,_⟩:=Apm I.hok ea
  obtain⟨od,J,_⟩:=O.look
  exact PySem.W.kia_one (PySem.W.kitx_own (cl.get _) cl.hd ha hn htk hm) I.kIn J e (fun z=>nomatch z) h
end
structure Ht (k:Nat) (A:Around) (cm:Bool:=true):Prop where
 hd:cm=true->A.handled=none
 dp:A.depth+3 * k+5 < recursionLimit
 un:A.units+16 * k+200 < cLine
theorem Ht.mono {j k:Nat} {A:Around} {cm:Bool} (r:Ht k A cm) (h:j≤k):Ht j A cm:=⟨r.hd,by have:=r.dp;omega,by have:=r.un;omega⟩
theorem Ht.deeper {k:Nat} {A:Around} {cm:Bool} (r:Ht (k+1) A cm) (env:Env):Ht k (A.deeper env) cm:=
 ⟨r.hd,by have:=r.dp;show A.depth+1+3 * k+5 < _;omega,by have:=r.un;show A.units+3+16 * k+200 < _;omega⟩
theorem Afe {A:Around} {C:Addr} {us:List Value} {kw:List (Str×Value)}:(A.under (.builtin "type.__call__" ⟨.ref C::us,kw⟩)).depth=A.depth+1:=by
 first|rfl|simp[Around.under,Code.weight,Code.isCreation,Code.isGuard,Code.isCaller,Code.frames,Code.isFrame,guardIds]
theorem Afg {A:Around} {C:Addr} {us:List Value} {kw:List (Str×Value)}:(A.under (.builtin "type.__call__" ⟨.ref C::us,kw⟩)).units=A.units+1:=by
 first|rfl|simp[Around.under,Code.cUnits,Code.frames,Code.isFrame]
theorem Ht.make {k:Nat} {A:Around} {cm:Bool} (r:Ht (k+1) A cm) (C:Addr) (us:List Value) (kw:List (Str×Value)):Ht k (A.under (.builtin "type.__call__" ⟨.ref C::us,kw⟩)) cm:=
 ⟨r.hd,by have:=r.dp;rw[Afe];omega,by have:=r.un;rw[Afg];omega⟩
theorem Ht.depth {k:Nat} {A:Around} {cm:Bool} (r:Ht k A cm):A.depth < recursionLimit:=by have:=r.dp;omega
def Alh:TA:=fun _ H Q=>Q [] H
def Acs (ta:TE) (tr:TA):TA:=fun σ H Q=>ta σ H fun x H1=>tr σ H1 fun xs H2=>Q (x::xs) H2
section
variable {X:Cx} {e:Expr} {es:List Expr} {te:TE} {t:TA} {pos:Pos}
theorem Afh:PA X [] Alh:=fun _ _ _ _ H Q I h=>Calls.spliced_nil ⟨[],H,I,.nil,h⟩
theorem Vl (ha:PE X e te) (hr:PA X es t) (hs:starEach (e::es) X.env=(false,eval e X.env)::starEach es X.env:=by rfl):PA X (e::es) (Acs te t):=by
 intro pos pins s σ H Q I h
 rw[hs]
 show wpAny _ _ (spliced ((false,eval e X.env)::backTo pos (starEach es X.env))) _ _ s
 refine Calls.spliced_cons (thn (ha pins s σ H _ I h) fun u s1 ⟨x,H1,I1,r1,q1⟩=>?_)
 exact thn (hr pos pins s1 σ H1 _ I1 q1) fun us s2 ⟨xs,H2,I2,r2,q2⟩=>⟨x::xs,H2,I2,.cons r1 r2,q2⟩
def Ay2 (t:TA):TE:=fun σ H Q=>t σ H fun xs H1=>xs.length≤sizeLine∧∀p,H1 p=none->Q (.ref p) (upd H1 p (.tup xs))
def Ay3 (t:TA):TE:=fun σ H Q=>t σ H fun xs H1=>xs.length≤sizeLine∧∀p,H1 p=none->Q (.ref p) (upd H1 p (.lst xs))
theorem Avf {x1} (h:PA X es t):PE X (.Tuple es x1 pos) (Ay2 t):=by
 intro pins s σ H Q I hq
 refine wpAny_Tuple_spliced (thn (h pos pins s σ H _ I hq) fun us s1 ⟨xs,H1,I1,r,z,q⟩=>⟨by rw[←r.length];exact z,?_⟩)
 have hf:H1 s1.heap.objs.size=none:=I1.hok.fresh (Nat.le_refl _)
 refine⟨.ref s1.heap.objs.size,upd H1 s1.heap.objs.size (.tup xs),I1.laid (t':=s1.toks) (fun b u e=>Heap.get?_push_of_some _ e) (Nat.le_refl _) ?_,rfl,q _ hf⟩
 exact⟨z,us,r,⟨_,Heap.get?_push_size _ rfl,rfl,_,rfl⟩⟩
theorem Avg (h:PA X es t):PE X (.List es pos) (Ay3 t):=by
 intro pins s σ H Q I hq
 refine wpAny_List_spliced (thn (h pos pins s σ H _ I hq) fun us s1 ⟨xs,H1,I1,r,z,q⟩=>⟨by rw[←r.length];exact z,?_⟩)
 have hf:H1 s1.heap.objs.size=none:=I1.hok.fresh (Nat.le_refl _)
 refine⟨.ref s1.heap.objs.size,upd H1 s1.heap.objs.size (.lst xs),I1.laid (t':=s1.toks) (fun b u e=>Heap.get?_push_of_some _ e) (Nat.le_refl _) ?_,rfl,q _ hf⟩
 exact⟨z,us,0,r,Heap.get?_push_size _ rfl⟩
end
abbrev Sp:=List V->Hp->VK->XK->Prop
abbrev CXT:=List Env->Hp->Shared->XK->Value->Shared->Prop
structure Afi (P:Program) (w:World) (K:PySem.W.Frag) (mg:Str->Option Value) (base:Heap) (A:Around) (outer:List Env) (s:Shared) (H:Hp):Prop where
 frames:A.frames=some outer
 mod:Mod K mg base
 bs:∀b o,base.get? b=some o->s.heap.get? b=some o∧H b=none
 bsz:base.objs.size≤s.heap.objs.size
 funs:s.heap.FunFrames base outer
 frf:∀b∈frs outer,H b=none
 hok:HOk P w H s.heap
 bare:AllBare s.gens
def CE (outer:List Env) (P:Program) (w:World) (H:Hp) (s:Shared) (Q:VK) (u:Value) (s':Shared):Prop:=
 ∃v H',s'.os=s.os∧AllBare s'.gens∧Un (frs outer) [] H H' s.heap s'.heap∧HOk P w H' s'.heap∧RelV v u∧Q v H'
def CR (CX:CXT) (outer:List Env) (P:Program) (w:World) (H:Hp) (s:Shared) (Q:VK) (E:XK) (r:Result) (s':Shared):Prop:=
 match r with
 |.ok (.ret u)=>CE outer P w H s Q u s'
 |.ok _=>False
 |.error e=>CX outer H s E e s'
structure Ib (P:Program) (w:World) (K:PySem.W.Frag) (mg:Str->Option Value) (base:Heap) (CX:CXT) (k:Nat) (f:Addr) (fd:FuncData) (ps:List Str) (sp:Sp) (cm:Bool:=true):Prop where
 len:∀vs H Q E,sp vs H Q E->vs.length=ps.length
 run:∀(A:Around) (outer:List Env) (s:Shared) (H:Hp) (args:Args) (us:List Value) (vs:List V) (Q:VK) (E:XK),Ht k A cm->Afi P w K mg base A outer s H->BindsTo s fd args (ps.zip us)->Vals vs us->sp vs H Q E->
  codeAny (model P w) A (.call (.ref f) args) (CR CX outer P w H s Q E) s
theorem Ib.mono {P:Program} {w:World} {K:PySem.W.Frag} {mg:Str->Option Value} {base:Heap} {CX:CXT} {j k:Nat} {f:Addr} {fd:FuncData} {ps:List Str} {sp:Sp} {cm:Bool} (F:Ib P w K mg base CX j f fd ps sp cm) (h:j≤k) :
  Ib P w K mg base CX k f fd ps sp cm:=⟨F.len,fun A outer s H args us vs Q E hr=>F.run A outer s H args us vs Q E (hr.mono h)⟩
theorem Afi.make {P:Program} {w:World} {K:PySem.W.Frag} {mg:Str->Option Value} {base:Heap} {A:Around} {outer:List Env} {s:Shared} {H:Hp} (e:Afi P w K mg base A outer s H) (C:Addr) (us:List Value) (kw:List (Str×Value)) :
  Afi P w K mg base (A.under (.builtin "type.__call__" ⟨.ref C::us,kw⟩)) outer s H:=⟨by first|exact e.frames|(simpa [Around.under,Code.envs,Code.isFrame,pushEnvs] using e.frames),e.mod,e.bs,e.bsz,e.funs,e.frf,e.hok,e.bare⟩
section
variable {X:Cx} {pins:List (Addr×Obj)} {σ:St} {H:Hp} {s s':Shared}
theorem Inv.env0 (I:Inv X pins σ H s):Afi X.prog X.w X.K X.mg X.base X.A X.stack s H:=
 ⟨I.ok.frames,I.ok.mod,I.bs,Nat.le_trans I.ok.bsz I.sz,I.stack,I.stkFree,I.hok,I.bare⟩
theorem Inv.after {Q:VK} {u:Value} (I:Inv X pins σ H s) (h:CE X.stack X.prog X.w H s Q u s'):EP X pins σ Q u s':=by
 obtain⟨v,H',os,bare,un,hok,r,q⟩:=h
 obtain⟨hh,g,d,t,os'⟩:=s'
 obtain rfl:os'=s.os:=os
 exact⟨v,H',I.call (h':=hh) (g':=g) (d':=d) (t':=t) (ch:=[]) un hok bare (fun b z=>absurd z (by simp)),r,q⟩
end
def Binds (K:PySem.W.Frag) (fd:FuncData) (ps:List Str) (ds:List Value):Prop:=
 ∀(s:Shared) (us:List Value),K.In s.heap->(us ++ ds).length=ps.length->BindsTo s fd ⟨us,[]⟩ (ps.zip (us ++ ds))
theorem Binds.all {K:PySem.W.Frag} {fd:FuncData} {ps:List Str} (h:∀us:List Value,us.length=ps.length->bindArgs fd ⟨us,[]⟩=pure (ps.zip us)):Binds K fd ps []:=fun s us _ hl=>by
 rw[List.append_nil] at hl ⊢
 exact .of_eq (h us hl)
def Avh (CX:CXT) (X:Cx) (E:XK):Prop:=∀(pins:List (Addr×Obj)) (σ:St) (H:Hp) (s:Shared) (e:Value) (s':Shared),Inv X pins σ H s->CX X.stack H s E e s'->X.xe e s'
def PK (X:Cx) (kws:List Keyword) (t:TA):Prop:=
 ∀(pos:Pos) (pins:List (Addr×Obj)) (s:Shared) (σ:St) (H:Hp) (Q:List V->Hp->Prop),Inv X pins σ H s->t σ H Q->wpAny (model X.prog X.w) X.A (evalAll ((backToKw pos (keywordEach kws X.env)).map (·.2))) (AP X pins σ Q) X.xe s
section
variable {X:Cx} {CX:CXT} {k:Nat} {f C:Addr} {fd:FuncData} {ps ks:List Str} {sp:Sp} {E:XK} {x m:Str} {p pos apos kpos:Pos} {e o:Expr} {es:List Expr} {kws:List Keyword} {te ta:TE} {t tk:TA} {nm:Option Str}
theorem Avi:PK X [] Alh:=fun _ _ _ _ H Q I h=>wpAny_evalAll_nil ⟨[],H,I,.nil,h⟩
theorem Apn (ha:PE X e te) (hr:PK X kws t):PK X (⟨nm,e,kpos⟩::kws) (Acs te t):=by
 intro pos pins s σ H Q I h
 show wpAny _ _ (evalAll ((do let v←eval e X.env;standAt pos;pure v)::(backToKw pos (keywordEach kws X.env)).map (·.2))) _ _ s
 refine wpAny_evalAll_cons (wpAny_bind (thn (ha pins s σ H _ I h) fun u s1 ⟨x,H1,I1,r1,q1⟩=>wpAny_bind (wpAny_standAt (wpAny_pure ?_))))
 exact thn (hr pos pins s1 σ H1 _ I1 q1) fun us s2 ⟨xs,H2,I2,r2,q2⟩=>⟨x::xs,H2,I2,.cons r1 r2,q2⟩
variable {g:List Value->List Value->List Value} {gV:List V->List V->List V}
end
structure Bg (N P:List Str) (sc:Scope):Prop where
 kind:sc.kind=.function
 co:sc.isCoroutine=false
 gen:sc.isGenerator=false
 nd:N.Nodup
 pre:N.take P.length=P
 par:∀x∈P,sc.names.lookup x=some .local∨sc.names.lookup x=some .cell
 nofree:∀y∈sc.names,y.2≠.free
theorem Yx {kindOf:Str->Option NameKind} {x:Str}:∀{binds:List (Str×Value)} {m:Str->Option Value},(∀v,(x,v)∉binds)->bindL kindOf binds m x=m x
 |[],_,_=>rfl
 |(n,v)::r,m,h=>by
  unfold bindL
  rw[Yx fun w hw=>h w (List.mem_cons_of_mem _ hw)]
  split
  .have:x≠n:=by rintro rfl;exact h v List.mem_cons_self
   simp[this]
  .rfl
theorem Yy {kindOf:Str->Option NameKind} {x:Str}:∀{binds:List (Str×Value)} {m:Str->Option Value},(∀v,(x,v)∉binds)->bindC kindOf binds m x=m x
 |[],_,_=>rfl
 |(n,v)::r,m,h=>by
  unfold bindC
  rw[Yy fun w hw=>h w (List.mem_cons_of_mem _ hw)]
  split
  .rfl
  .have:x≠n:=by rintro rfl;exact h v List.mem_cons_self
   simp[this]
theorem Yz {kindOf:Str->Option NameKind} {x:Str} {v:Value}:∀{P:List Str} {vs:List Value} {i:Nat} {m:Str->Option Value},P.Nodup->P[i]?=some x->vs[i]?=some v->kindOf x=some .local->
  bindL kindOf (P.zip vs) m x=some v
 |[],_,_,_,_,h,_,_=>by simp at h
 |_::_,[],_,_,_,_,h,_=>by simp at h
 |p::P,w::vs,0,m,nd,h1,h2,hk=>by
  simp at h1 h2;subst h1;subst h2
  show bindL kindOf ((p,w)::P.zip vs) m p=_
  unfold bindL
  rw[Yx fun v hv=>(List.nodup_cons.mp nd).1 (List.of_mem_zip hv).1,if_pos hk]
  simp
 |p::P,w::vs,i+1,m,nd,h1,h2,hk=>by
  show bindL kindOf ((p,w)::P.zip vs) m x=_
  unfold bindL
  exact Yz (i:=i) (List.nodup_cons.mp nd).2 (by simpa using h1) (by simpa using h2) hk
theorem Y0 {kindOf:Str->Option NameKind} {x:Str} {v:Value}:∀{P:List Str} {vs:List Value} {i:Nat} {m:Str->Option Value},P.Nodup->P[i]?=some x->vs[i]?=some v->kindOf x≠some .local->
  bindC kindOf (P.zip vs) m x=some v
 |[],_,_,_,_,h,_,_=>by simp at h
 |_::_,[],_,_,_,_,h,_=>by simp at h
 |p::P,w::vs,0,m,nd,h1,h2,hk=>by
  simp at h1 h2;subst h1;subst h2
  show bindC kindOf ((p,w)::P.zip vs) m p=_
  unfold bindC
  rw[Yy fun v hv=>(List.nodup_cons.mp nd).1 (List.of_mem_zip hv).1,if_neg hk]
  simp
 |p::P,w::vs,i+1,m,nd,h1,h2,hk=>by
  show bindC kindOf ((p,w)::P.zip vs) m x=_
  unfold bindC
  exact Y0 (i:=i) (List.nodup_cons.mp nd).2 (by simpa using h1) (by simpa using h2) hk
def start (N:List Str) (vs:List V):St:=vs.map some ++ List.replicate (N.length - vs.length) none
def P0 (CX:CXT) (P:Program) (w:World) (K:PySem.W.Frag) (mg:Str->Option Value) (base:Heap) (N:List Str) (qual:Str) (scope:Scope) (f:Addr) (cd:Value) (A:Around) (outer:List Env) (s:Shared) (H:Hp) (E:XK) (cm:Bool:=true):Cx where
 prog:=P
 w:=w
 K:=K
 mg:=mg
 base:=base
 A:=A.deeper (envOfC qual scope s.heap.objs.size f cd)
 N:=N
 s₀:=s
 H₀:=H
 env:=envOfC qual scope s.heap.objs.size f cd
 outer:=outer
 stack:=envOfC qual scope s.heap.objs.size f cd::outer
 ex:=[]
 calm:=cm
 fn:=fun _=>true
 pn:=[]
 xe:=fun e s'=>wpAny (model P w) (A.deeper (envOfC qual scope s.heap.objs.size f cd)) (leaving (envOfC qual scope s.heap.objs.size f cd) e) (fun _ s''=>CX outer H s E e s'') (fun e' s''=>CX outer H s E e' s'') s'
theorem Acu {sc:Scope} {n:Nat} {x:Str} (h:sc.names.lookup x=some .cell):∃c,(cellsFrom n sc.names []).lookup x=some c:=by
 have q:=PySem.W.cellsFrom_some sc.names n [] (.inl h)
 exact Option.isSome_iff_exists.mp q
theorem Ai6 {cm:Bool} {CX:CXT} {P:Program} {w:World} {K:PySem.W.Frag} {mg:Str->Option Value} {base:Heap} {N ps:List Str} {qual:Str} {scope:Scope} {f:Addr} {cd:Value} {A:Around} {outer:List Env} {s s1:Shared} {H:Hp} {E:XK} {us:List Value} {vs:List V}
  (S:Bg N ps scope) (hd:cm=true->A.handled=none) (e0:Afi P w K mg base A outer s H) (hl:vs.length=ps.length) (r:Vals vs us)
  (x:InCallC s s.heap.objs.size (bindL (envOfC qual scope s.heap.objs.size f cd).kindOf (ps.zip us) fun _=>none) (cellsFrom (s.heap.objs.size+1) scope.names []) (bindC (envOfC qual scope s.heap.objs.size f cd).kindOf (ps.zip us) fun _=>none) s1) :
  Inv (P0 CX P w K mg base N qual scope f cd A outer s H E cm) [] (start N vs) H s1:=by
 have hpl:ps.length≤N.length:=by have:=congrArg List.length S.pre;rw[List.length_take] at this;omega
 obtain⟨h1,tk,rfl,hk⟩:=x.done
 have noA:∀b:Addr,b∉(P0 CX P w K mg base N qual scope f cd A outer s H E cm).ex:=fun b z=>absurd (show b∈([]:List Addr) from z) (by simp)
 refine⟨⟨e0.mod,S.kind,rfl,rfl,Nat.le_refl _,fun y z c h1 h2=>?_,fun y hy=>?_,fun y c _ h=>?_,hd,Around.frames_deeper e0.frames,.inr ⟨rfl,rfl⟩,fun b z=>absurd z (noA b),e0.bs,e0.bsz,fun b _ _=>noA b,fun b z=>absurd z (noA b),e0.funs,e0.frf⟩,
  rfl,e0.bare,Un.kept hk,⟨_,x.toInCall.ns,fun i y v h1 h2 h3=>?_⟩,fun y c h=>⟨_,x.cell y c h⟩,e0.hok.fresh (Nat.le_refl _),fun y c h=>?_,fun p hp=>absurd (show p∈([]:List (Addr×Obj)) from hp) (by simp),e0.hok.kept hk,?_⟩
 .exact name_of_addr x.apart (PySem.mem_of_lookup h1) (PySem.mem_of_lookup h2)
 .have hy:scope.names.lookup y=some .cell∨scope.names.lookup y=some .free:=hy
  rcases hy with hy|hy
  .exact Acu hy
  .exact absurd rfl (S.nofree _ (PySem.mem_of_lookup hy))
 .exact Nat.le_of_lt (x.above y c (PySem.mem_of_lookup h))
 .have hi:i < vs.length:=by
   unfold start at h2
   by_cases hi:i < vs.length
   .exact hi
   .rw[List.getElem?_append_right (by simpa using hi)] at h2
    rw[List.getElem?_replicate] at h2
    split at h2 <;> cases h2
  have ha:vs[i]?=some v:=by
   unfold start at h2
   rw[List.getElem?_append_left (by simpa using hi),List.getElem?_map] at h2
   cases e:vs[i]? with
   |none=>rw[e] at h2;cases h2
   |some a=>rw[e] at h2;cases h2;rfl
  obtain⟨u,hu,rv⟩:=r.get ha
  have hp:ps[i]?=some y:=by
   rw[←S.pre,List.getElem?_take_of_lt (by omega)];exact h1
  have ndP:ps.Nodup:=by rw[←S.pre];exact S.nd.sublist (List.take_sublist _ _)
  refine⟨u,rv,?_⟩
  rcases S.par y (List.mem_of_getElem? hp) with k|k
  .exact .inl ⟨k,Yz ndP hp hu k⟩
  .obtain⟨c,e⟩:=Acu (n:=s.heap.objs.size+1) k
   refine .inr ⟨.inl k,c,e,?_⟩
   have q:=x.cell y c e
   rw[Y0 ndP hp hu (by show scope.names.lookup y≠_;rw[k];decide)] at q
   exact q
 .exact e0.hok.fresh (Nat.le_of_lt (x.above y c (PySem.mem_of_lookup h)))
 .unfold start
  show _=N.length
  rw[List.length_append,List.length_map,List.length_replicate]
  omega
theorem Ay4 {cm:Bool} {CX:CXT} {P:Program} {w:World} {K:PySem.W.Frag} {mg:Str->Option Value} {base:Heap} {k:Nat} {f:Addr} {name qual:Str} {params:Arguments} {body:List Stmt} {scope:Scope} {dV kV doc pm cdv ct oc:Value} {an od:Option Addr}
  {osl:Array (Option Value)} {N ps:List Str} {sp:Sp} (lk:K.lookup f=some ⟨oc,od,.func (PySem.W.fnOf name qual params body scope dV kV doc pm an cdv ct),osl⟩) (hcd:PySem.W.codeIn K cdv qual=true) (S:Bg N ps scope)
  (len:∀vs H Q E,sp vs H Q E->vs.length=ps.length)
  (hbody:∀(A:Around) (outer:List Env) (s:Shared) (H:Hp) (vs:List V) (Q:VK) (E:XK),Ht k (A.deeper (envOfC qual scope s.heap.objs.size f cdv)) cm->sp vs H Q E->
   ∃t,PSs (P0 CX P w K mg base N qual scope f cdv A outer s H E cm) body t∧t { nx:=fun _ H'=>Q .non H',rt:=Q } (start N vs) H) :
  Ib P w K mg base CX (k+1) f (PySem.W.fnOf name qual params body scope dV kV doc pm an cdv ct) ps sp cm:=by
 refine⟨len,fun A outer s H args us vs Q E hr e0 hb r hsp=>?_⟩
 have hl:=len _ _ _ _ hsp
 have KX:K.In s.heap:=e0.mod.kin.keeps fun b o e=>(e0.bs b o e).1
 have lim:s.heap.NoLimit:=e0.mod.nolimit.keeps fun b o e=>(e0.bs b o e).1
 have hkind:∀y∈ps.zip us,scope.names.lookup y.1=some .local∨(scope.names.lookup y.1=some .cell∧((cellsFrom (s.heap.objs.size+1) scope.names []).lookup y.1).isSome=true):=fun⟨n,v⟩ hy=>by
  rcases S.par n (List.of_mem_zip hy).1 with q|q
  .exact .inl q
  .exact .inr ⟨q,PySem.W.cellsFrom_some _ _ _ (.inl q)⟩
 refine codeAny_call_function hr.depth (KX _ _ lk) rfl S.co S.gen rfl (PySem.W.codeRec_of KX hcd) (hb _ _ _ _ ?_)
 refine wpAny_newFunctionEnv_cells S.kind hkind fun env he s1 x=>?_
 subst he
 refine⟨lim.keeps x.toInCall.keep,codeAny_func ?_⟩
 obtain⟨t,ht,hq⟩:=hbody A outer s H vs Q E (hr.deeper _) hsp
 have I:Inv (P0 CX P w K mg base N qual scope f cdv A outer s H E cm) [] (start N vs) H s1:=Ai6 S hr.hd e0 hl r x
 refine wpAny_mono (ht [] s1 (start N vs) H _ I hq) (fun fl s' hs=>?_) fun e s' hs=>hs
 have fin:∀{σ':St} {H':Hp} {v:V} {u:Value},Inv (P0 CX P w K mg base N qual scope f cdv A outer s H E cm) [] σ' H' s'->RelV v u->Q v H'->CE outer P w H s Q u s':=
  fun {σ' H' v u} J rv q=>⟨v,H',J.os,J.bare,J.base,J.hok,rv,q⟩
 cases fl with
 |ret u=>
  obtain⟨v,σ',H',J,rv,q⟩:=hs
  exact fin J rv q
 |next=>
  obtain⟨σ',H',J,q⟩:=hs
  exact fin (v:=V.non) (u:=Value.none) J rfl q
 |brk=>
  obtain⟨_,_,_,q⟩:=hs
  exact False.elim q
 |cont=>
  obtain⟨_,_,_,q⟩:=hs
  exact False.elim q
section
variable {X:Cx} {x:Str} {p pos:Pos} {e:Expr} {es:List Expr} {t:TA} {id T:String} {r:List V->Hp->VK->Prop}
def tCB (r:List V->Hp->VK->Prop) (t:TA):TE:=fun σ H Q=>t σ H fun vs H1=>r vs H1 Q
theorem Ali (hc:Gw X (.builtin id) r) (hg:Gl X x) (hm:X.mg x=none) (hv:bootBuiltins x=some (.builtin id)) (ha:PA X (e::es) t) (hn:x≠"__name__":=by decide) (hdb:(x==("__debug__":Str))=false:=by decide)
  (he:starEach (e::es) X.env=(false,eval e X.env)::starEach es X.env:=by rfl) (hpl:(backTo pos (starEach es X.env)).any (·.1)=false:=by rfl):PE X (.Call (.Name x p) (e::es) [] pos) (tCB r t):=by
 intro pins s σ H Q I h
 refine wpAny_Call_Name_kw (Py I hg hm hv ?_ hn hdb)
 exact PyProof.Rows.callWith_builtin1 (thn (ha pos pins s σ H _ I h) fun us s1 ⟨vs,H1,I1,r1,q1⟩=>hc pins s1 σ H1 vs us Q I1 r1 q1) he hpl
theorem Ai7 (hc:Gw X (.type T) r) (hg:Gl X x) (hm:X.mg x=none) (hv:bootBuiltins x=some (.type T)) (ha:PA X (e::es) t) (hn:x≠"__name__":=by decide) (hdb:(x==("__debug__":Str))=false:=by decide)
  (he:starEach (e::es) X.env=(false,eval e X.env)::starEach es X.env:=by rfl) (hpl:(backTo pos (starEach es X.env)).any (·.1)=false:=by rfl):PE X (.Call (.Name x p) (e::es) [] pos) (tCB r t):=by
 intro pins s σ H Q I h
 refine wpAny_Call_Name_kw (Py I hg hm hv ?_ hn hdb)
 exact PyProof.Rows.callWith_type1 (thn (ha pos pins s σ H _ I h) fun us s1 ⟨vs,H1,I1,r1,q1⟩=>hc pins s1 σ H1 vs us Q I1 r1 q1) he hpl
end
end L2
namespace HT
open PySem PyProof.Rows
section
open PySem.SeqAt
open PySem.AutoSeq1 (wpAny_loadPart')
open PySem.MeetsSeq PySem.MeetsSeq2 PySem.MeetsSeq3
end
section
variable {prog:Program} {w:World} {A:Around} {E:Value->Shared->Prop} {s:Shared}
theorem cat_tup {t b:Addr} {vs ws:List Value} {Q:Value->Shared->Prop} (ht:IsTup s.heap t vs.toArray) (hb:IsTup s.heap b ws.toArray) (hv:vs≠[])
  (h1:ws=[]->Q (.ref t) s) (h2:ws≠[]->Q (.ref s.heap.objs.size) { s with heap:=s.heap.push { cls:=.type "tuple",data:=.seq (vs ++ ws).toArray } })
  (hsz:vs.length+ws.length≤sizeLine):wpAny (model prog w) A (binaryOp .Add (.ref t) (.ref b)) Q E s:=by
 obtain⟨⟨cls,dd,data,sl⟩,ho,hc,n,hd⟩:=id ht
 obtain⟨⟨cls2,dd2,data2,sl2⟩,ho2,hc2,n2,hd2⟩:=id hb
 simp only at hc hd hc2 hd2
 subst hc hd hc2 hd2
 have e:vs.toArray ++ ws.toArray=(vs ++ ws).toArray:=by simp
 by_cases hw:ws=[]
 .exact concat_meets ⟨_,ho,rfl⟩ ⟨_,ho2,rfl⟩ noFill_tuple_add seq_tuple_add PySem.F.slot_tuple_add PySem.F.entry_tuple_add (PySem.F.args_tuple_add_2 _ _)
   (tuple_addW1 t b vs.toArray ws.toArray n n2 dd dd2 sl sl2 (by simpa using hv) (by simp[hw])) ⟨ho,ho2,h1 hw⟩
 .refine concat_meets ⟨_,ho,rfl⟩ ⟨_,ho2,rfl⟩ noFill_tuple_add seq_tuple_add PySem.F.slot_tuple_add PySem.F.entry_tuple_add (PySem.F.args_tuple_add_2 _ _)
   (tuple_addW2 t b vs.toArray ws.toArray n n2 dd dd2 sl sl2 (by simpa using hv) (by simpa using hw) (by rw[List.size_toArray,List.size_toArray];exact hsz)) ⟨ho,ho2,?_⟩
  rw[e]
  exact h2 hw
def sIx (n d:Nat):Option Int->Nat
 |none=>d
 |some v=>if v < 0 then (v+(n:Int)).toNat else min v.toNat n
theorem sIx_nat (n d k:Nat):sIx n d (some (k:Int))=min k n:=by
 show (if (k:Int) < 0 then ((k:Int)+(n:Int)).toNat else min (k:Int).toNat n)=min k n
 rw[if_neg (by omega),Int.toNat_natCast]
theorem Avj (n d:Nat) (hd:d≤n) (o:Option Int):sIx n d o≤n:=by
 cases o with
 |none=>exact hd
 |some v=>
  show (if v < 0 then (v+(n:Int)).toNat else min v.toNat n)≤n
  by_cases hv:v < 0
  .rw[if_pos hv];omega
  .rw[if_neg hv];exact Nat.min_le_right _ _
theorem Aha (v:Int) (n d:Nat):(if v < 0 then max (v+(n:Int)) 0 else min v (n:Int))=((sIx n d (some v):Nat):Int):=by
 show (if v < 0 then max (v+(n:Int)) 0 else min v (n:Int))=(((if v < 0 then (v+(n:Int)).toNat else min v.toNat n):Nat):Int)
 by_cases hv:v < 0
 .simp only[if_pos hv];omega
 .simp only[if_neg hv];omega
theorem Afj (lo hi:Option Int) (n:Nat):Builtin.Slice.sliceAdjust lo hi 1 (n:Int)=(((sIx n 0 lo:Nat):Int),((sIx n n hi:Nat):Int)):=by
 have h1:¬ ((1:Int) < 0):=by omega
 unfold Builtin.Slice.sliceAdjust
 simp only[h1,if_false]
 refine Prod.ext ?_ ?_
 .cases lo with
  |none=>rfl
  |some v=>exact Aha v n 0
 .cases hi with
  |none=>rfl
  |some v=>exact Aha v n n
theorem Afk (i j:Nat):Builtin.Slice.slicePlaces (i:Int) (j:Int) 1=j - i:=by
 unfold Builtin.Slice.slicePlaces
 have h1:(1:Int) > 0:=by omega
 simp only[h1,if_true,Int.ediv_one]
 split <;> omega
theorem Wa {v:Value} {o:Option Int} {Q:Option Int->Shared->Prop} (p:IsPart v o) (h:Q o s):wpAny (model prog w) A (Builtin.Slice.slicePartIndex v) Q E s:=by
 cases p with
 |none=>exact slicePart_none h
 |int i t=>exact slicePart_int h
theorem K9 {sl:Addr} {vl vu:Value} {lo hi:Option Int} {n:Nat} {Q:Int×Int×Nat->Shared->Prop} (hs:s.heap.IsSliceOf sl vl vu .none) (pl:IsPart vl lo) (pu:IsPart vu hi)
  (h:Q (((sIx n 0 lo:Nat):Int),1,sIx n n hi - sIx n 0 lo) s):wpAny (model prog w) A (Builtin.Slice.sliceApplied (.ref sl) (pure (n:Int))) Q E s:=by
 obtain⟨os,hos,hcs,hds⟩:=id hs
 unfold Builtin.Slice.sliceApplied Builtin.Slice.sliceFields
 refine wpAny_bind (wpAny_bind (wpAny_field hos hds (x:=vl) rfl (wpAny_bind (wpAny_field hos hds (x:=vu) rfl (wpAny_bind (wpAny_field hos hds (x:=.none) rfl (wpAny_pure ?_)))))))
 refine wpAny_bind (slicePart_none ?_)
 show wpAny _ _ (if ((1:Int)==0)=true then _ else _) _ _ s
 rw[if_neg (by decide)]
 refine wpAny_bind (Wa pl (wpAny_bind (Wa pu (wpAny_bind (wpAny_pure ?_)))))
 show wpAny _ _ (match Builtin.Slice.sliceAdjust lo hi 1 (n:Int) with|(lo,hi)=>pure (lo,(1:Int),Builtin.Slice.slicePlaces lo hi 1)) _ _ s
 rw[Afj lo hi n]
 show wpAny _ _ (pure (((sIx n 0 lo:Nat):Int),(1:Int),Builtin.Slice.slicePlaces ((sIx n 0 lo:Nat):Int) ((sIx n n hi:Nat):Int) 1)) _ _ s
 rw[Afk]
 exact wpAny_pure h
theorem Alj (xs:Array Value) (i k:Nat):((List.range k).filterMap fun(m:Nat)=>xs[((i:Int)+(m:Int) * 1).toNat]?).toArray=((xs.toList.drop i).take k).toArray:=by
 have e:(fun(m:Nat)=>xs[((i:Int)+(m:Int) * 1).toNat]?)=fun m=>xs[i+m]?:=by
  funext m
  have:((i:Int)+(m:Int) * 1).toNat=i+m:=by omega
  rw[this]
 rw[e]
 have:=pick_run xs i k
 rw[List.filterMap_map] at this
 have e2:((fun x=>xs[x]?) ∘ fun x=>i+x)=fun m=>xs[i+m]?:=rfl
 rw[e2] at this
 rw[this]
theorem getItem_tuple_cut {t sl:Addr} {items:Array Value} {vl vu:Value} {lo hi:Option Int} {Q:Value->Shared->Prop} (ht:IsTup s.heap t items) (hs:s.heap.IsSliceOf sl vl vu .none) (pl:IsPart vl lo) (pu:IsPart vu hi)
  (hw:¬ (sIx items.size 0 lo=0∧sIx items.size items.size hi=items.size))
  (h:Q (.ref s.heap.objs.size) { s with heap:=s.heap.push { cls:=.type "tuple",data:=.seq ((items.toList.drop (sIx items.size 0 lo)).take (sIx items.size items.size hi - sIx items.size 0 lo)).toArray } })
  (hsz:items.size≤sizeLine):wpAny (model prog w) A (getItem (.ref t) (.ref sl)) Q E s:=by
 have htake:sizeOk (.seq ((items.toList.drop (sIx items.size 0 lo)).take (sIx items.size items.size hi - sIx items.size 0 lo)).toArray):=by
  show ((items.toList.drop (sIx items.size 0 lo)).take (sIx items.size items.size hi - sIx items.size 0 lo)).toArray.size≤sizeLine
  rw[List.size_toArray,List.length_take,List.length_drop,Array.length_toList]
  omega
 have hj:sIx items.size items.size hi≤items.size:=Avj _ _ (Nat.le_refl _) hi
 obtain⟨os,hos,hcs,hds⟩:=id hs
 have hTs:s.TypeIs (.ref sl) "slice":=⟨os,hos,hcs⟩
 unfold getItem
 try with_reducible refine wpAny_holding ?_
 first|refine wpAny_bind (wpAny_pure ?_)|skip
 refine wpAny_bind (wpAny_sequenceKey ht.typeIs (by decide) ?_)
 refine wpAny_bind (wpAny_callSpecial?_slot (name:=Str.ofString "__getitem__") ht.typeIs PyProof.Rows.slot_tuple_getitem
  (wpAny_call_entry PyProof.Rows.slot_tuple_getitem ht.typeIs entry_tuple_getitem ?_ (args_tuple_getitem _ _)))
 show wpAny _ _ (Builtin.Tuple.tupleItemsOf (.ref t) >>= _) _ _ s
 refine wpAny_bind (tupleItemsOf_ ht ?_)
 refine wpAny_bind (wpAny_typeOf hTs ?_)
 rw[if_pos (by decide)]
 refine wpAny_bind (K9 hs pl pu ?_)
 have hno:¬ ((((sIx items.size 0 lo:Nat):Int)==0&&(1:Int)==1&&(sIx items.size items.size hi - sIx items.size 0 lo)==items.size)=true):=by
  intro q
  rw[Bool.and_eq_true,Bool.and_eq_true] at q
  have q1:((sIx items.size 0 lo:Nat):Int)=0:=eq_of_beq q.1.1
  have q2:sIx items.size items.size hi - sIx items.size 0 lo=items.size:=eq_of_beq q.2
  exact hw ⟨by omega,by omega⟩
 show wpAny _ _ (if (((sIx items.size 0 lo:Nat):Int)==0&&(1:Int)==1&&(sIx items.size items.size hi - sIx items.size 0 lo)==items.size)=true then _ else _) _ _ s
 rw[if_neg hno,Alj]
 first
  |exact wpAny_bind (m:=Builtin.Tuple.tupleExact _) (wpAny_newObj_type (wpAny_pure ⟨_,rfl,wpAny_pure h⟩) htake)
  |exact wpAny_bind (m:=Builtin.Tuple.tupleExact _) (wpAny_newObj_type (wpAny_bind (wpAny_pure (wpAny_pure ⟨_,rfl,wpAny_pure h⟩))) htake)
  |exact wpAny_bind (wpAny_bind (m:=Builtin.Tuple.tupleExact _) (wpAny_newObj_type (wpAny_pure (wpAny_pure ⟨_,rfl,wpAny_pure h⟩)) htake))
  |exact wpAny_bind (wpAny_bind (m:=Builtin.Tuple.tupleExact _) (wpAny_newObj_type (wpAny_pure ⟨_,rfl,wpAny_pure h⟩) htake))
end
end HT
namespace L2
open PySem PySem.Spec PyProof.Rows
abbrev TO:=St->Hp->(Option Int->Hp->Prop)->Prop
def PO (X:Cx) (e:Option Expr) (t:TO):Prop:=
 ∀(pins:List (Addr×Obj)) (s:Shared) (σ:St) (H:Hp) (Q:Option Int->Hp->Prop),Inv X pins σ H s->t σ H Q->
  wpAny (model X.prog X.w) X.A (evalPart e X.env) (fun u s'=>∃o H',Inv X pins σ H' s'∧IsPart u o∧Q o H') X.xe s
def Ahb:TO:=fun _ H Q=>Q none H
def At0 (t:TE):TO:=fun σ H Q=>t σ H fun x H1=>∃i,x=.int i∧Q (some i) H1
theorem intsAre_of {ns:List Int}:∀{us:List Value},Vals (ns.map V.int) us->IntsAre us ns:=by
 induction ns with
 |nil=>intro us r;rw[List.map_nil] at r;cases r;exact .nil
 |cons n ns ih=>
  intro us r
  rw[List.map_cons] at r
  cases r with
  |cons r1 r2=>
   obtain⟨t,e⟩:=r1
   subst e
   exact .cons n t (ih r2)
section
variable {X:Cx} {e:Expr} {te:TE} {lo hi:Option Expr} {tl th:TO} {pos p2:Pos}
theorem Apo:PO X none Ahb:=by
 intro pins s σ H Q I h
 rw[evalPart_none]
 exact wpAny_pure ⟨none,H,I,.none,h⟩
theorem App (h:PE X e te):PO X (some e) (At0 te):=by
 intro pins s σ H Q I hw
 rw[evalPart_some]
 refine thn (h pins s σ H _ I hw) fun u s1 ⟨x,H1,I1,r1,q1⟩=>?_
 obtain⟨i,rfl,q⟩:=q1
 obtain⟨t,rfl⟩:=r1
 exact⟨some i,H1,I1,.int i t,q⟩
def SlR (X:Cx) (r:V->Option Int->Option Int->Hp->VK->Prop):Prop:=
 ∀(pins:List (Addr×Obj)) (s:Shared) (σ:St) (H:Hp) (x:V) (v vl vu:Value) (lo hi:Option Int) (sl:Addr) (Q:VK),Inv X pins σ H s->RelV x v->s.heap.IsSliceOf sl vl vu .none->IsPart vl lo->IsPart vu hi->r x lo hi H Q->
  ∃T id,typeLookup (.type T) "__getitem__"=pure (some (.builtin id))∧s.TypeIs v T∧wpAny (model X.prog X.w) X.A (getItem v (.ref sl)) (EP X pins σ Q) X.xe s
theorem SlR.or {r r':V->Option Int->Option Int->Hp->VK->Prop} (h:SlR X r) (h':SlR X r'):SlR X (fun x lo hi H Q=>r x lo hi H Q∨r' x lo hi H Q):=by
 intro pins s σ H x v vl vu lo hi sl Q I rx hs pl pu q
 rcases q with q|q
 .exact h pins s σ H x v vl vu lo hi sl Q I rx hs pl pu q
 .exact h' pins s σ H x v vl vu lo hi sl Q I rx hs pl pu q
def tSl (r:V->Option Int->Option Int->Hp->VK->Prop) (te:TE) (tl th:TO):TE:=fun σ H Q=>te σ H fun x H1=>tl σ H1 fun l H2=>th σ H2 fun u H3=>r x l u H3 Q
theorem Alk {r:V->Option Int->Option Int->Hp->VK->Prop} (hr:SlR X r) (he:PE X e te) (hl:PO X lo tl) (hu:PO X hi th):PE X (.Subscript e (.Slice lo hi none p2) pos) (tSl r te tl th):=by
 intro pins s σ H Q I h
 refine Subscript_ (thn (he pins s σ H _ I h) fun v s1 ⟨x,H1,I1,r1,q1⟩=>?_)
 refine wpAny_Slice (thn (hl pins s1 σ H1 _ I1 q1) fun vl s2 ⟨l,H2,I2,pl,q2⟩=>thn (hu pins s2 σ H2 _ I2 q2) fun vu s3 ⟨u,H3,I3,pu,q3⟩=>?_)
 rw[evalPart_none]
 refine wpAny_pure ?_
 have I4:Inv X pins σ H3 { s3 with heap:=s3.heap.push { cls:=.type "slice",data:=.fields #[vl,vu,.none] } }:=I3.kept (t':=s3.toks) fun b ob q=>Heap.get?_push_of_some _ q
 obtain⟨T,id,hT,ht,hg⟩:=hr pins { s3 with heap:=s3.heap.push { cls:=.type "slice",data:=.fields #[vl,vu,.none] } } σ H3 x v vl vu l u s3.heap.objs.size Q I4 r1 (Heap.IsSliceOf.new ..) pl pu q3
 show wpAny (model X.prog X.w) X.A (subscriptTail e (.Slice lo hi none p2) v (.ref s3.heap.objs.size)) (EP X pins σ Q) X.xe { s3 with heap:=s3.heap.push { cls:=.type "slice",data:=.fields #[vl,vu,.none] } }
 exact tail_any (ops:=[.ref s3.heap.objs.size,v]) ht hT hg (by with_unfolding_all rfl)
def Yg (xs:List V) (lo hi:Option Int):List V:=(xs.drop (HT.sIx xs.length 0 lo)).take (HT.sIx xs.length xs.length hi - HT.sIx xs.length 0 lo)
theorem Uj (xs:List V) (lo hi:Option Int):(Yg xs lo hi).length≤xs.length:=by
 unfold Yg
 rw[List.length_take,List.length_drop]
 omega
def Ay5 (K:PySem.W.Frag):V->Option Int->Option Int->Hp->VK->Prop:=fun x lo hi H Q=>∃a xs,x=.ref a∧SqT K H a xs∧
 ¬ (HT.sIx xs.length 0 lo=0∧HT.sIx xs.length xs.length hi=xs.length)∧∀p,H p=none->Q (.ref p) (upd H p (.tup (Yg xs lo hi)))
theorem Avk:SlR X (Ay5 X.K):=by
 intro pins s σ H x v vl vu lo hi sl Q I rx hs pl pu h
 obtain⟨a,xs,rfl,hx,hw,q⟩:=h
 cases rx
 obtain⟨its,r,ht,hz⟩:=I.tuple hx
 have hlen:its.toArray.size=xs.length:=by rw[List.size_toArray];exact r.length.symm
 refine⟨"tuple",_,PyProof.Rows.slot_tuple_getitem.lookup,ht.typeIs,?_⟩
 refine HT.getItem_tuple_cut ht hs pl pu (by rw[hlen];exact hw) ?_ (by rw[hlen];exact hz)
 rw[hlen]
 refine⟨.ref s.heap.objs.size,_,I.laid (t':=s.toks) (o:=.tup (Yg xs lo hi)) (fun b ob q=>Heap.get?_push_of_some _ q) (Nat.le_refl _) ?_,rfl,q _ (I.hok.fresh (Nat.le_refl _))⟩
 exact⟨Nat.le_trans (Uj xs lo hi) hz,_,(r.drop (HT.sIx xs.length 0 lo)).take (HT.sIx xs.length xs.length hi - HT.sIx xs.length 0 lo),IsTup.new _ _⟩
def At1 (K:PySem.W.Frag):R2:=fun x y H Q=>∃a b xs ys,x=.ref a∧y=.ref b∧SqT K H a xs∧SqT K H b ys∧xs≠[]∧xs.length+ys.length≤sizeLine∧
 (ys=[]->Q (.ref a) H)∧(ys≠[]->∀p,H p=none->Q (.ref p) (upd H p (.tup (xs ++ ys))))
theorem Vals.nil_iff {xs:List V} {us:List Value} (r:Vals xs us):us=[] ↔ xs=[]:=by
 cases r with
 |nil=>simp
 |cons _ _=>simp
theorem Apq:OpR X (binaryOp .Add) (At1 X.K):=by
 intro pins s σ H x y v u Q I rx ry h
 obtain⟨a,b,xs,ys,rfl,rfl,ha,hb,hx,hz,q1,q2⟩:=h
 cases rx
 cases ry
 obtain⟨its,r1,p1,_⟩:=I.tuple ha
 obtain⟨its2,r2,p2,_⟩:=I.tuple hb
 refine HT.cat_tup p1 p2 (fun z=>hx (r1.nil_iff.mp z)) (fun z=>⟨.ref a,H,I,rfl,q1 (r2.nil_iff.mp z)⟩) (fun z=>?_) (by rw[←r1.length,←r2.length];exact hz)
 refine⟨.ref s.heap.objs.size,_,I.laid (t':=s.toks) (o:=.tup (xs ++ ys)) (fun b ob q=>Heap.get?_push_of_some _ q) (Nat.le_refl _) ?_,rfl,q2 (fun w=>z (r2.nil_iff.mpr w)) _ (I.hok.fresh (Nat.le_refl _))⟩
 exact⟨by rw[List.length_append];exact hz,_,r1.append r2,IsTup.new _ _⟩
end
def ixN (n:Nat) (i:Int):Option Nat:=if 0≤i then (if i < n then some i.toNat else none) else if -(n:Int)≤i then some (i+n).toNat else none
def atI {α:Type} (xs:List α) (i:Int):Option α:=(ixN xs.length i).bind fun j=>xs[j]?
theorem Ahc {n:Nat} {i:Int} {j:Nat} (h:ixN n i=some j):seqIndex? i n=some j∧j < n∧-(n:Int)≤i∧i < n:=by
 unfold ixN at h
 by_cases h0:0≤i
 .rw[if_pos h0] at h
  by_cases h1:i < n
  .rw[if_pos h1] at h
   have e:i.toNat=j:=Option.some.inj h
   exact⟨by rw[seqIndex_of h0 h1,e],by omega,by omega,h1⟩
  .rw[if_neg h1] at h;cases h
 .rw[if_neg h0] at h
  by_cases h1:-(n:Int)≤i
  .rw[if_pos h1] at h
   have e:(i+n).toNat=j:=Option.some.inj h
   exact⟨by rw[seqIndex_neg (by omega) h1,e],by omega,h1,by omega⟩
  .rw[if_neg h1] at h;cases h
theorem Aam {α:Type} {xs:List α} {i:Int} {v:α} (h:atI xs i=some v):∃j,seqIndex? i xs.length=some j∧xs[j]?=some v∧j < xs.length∧-(xs.length:Int)≤i∧i < xs.length:=by
 unfold atI at h
 cases e:ixN xs.length i with
 |none=>rw[e] at h;cases h
 |some j=>
  rw[e] at h
  obtain⟨h1,h2,h3,h4⟩:=Ahc e
  exact⟨j,h1,h,h2,h3,h4⟩
def Qz (b:Expr):Prop:=∀o i,subscripted b false o i=operate [o,i] (getItem o i)
def IxR (X:Cx) (r:R2):Prop:=
 ∀(value slice:Expr) (pins:List (Addr×Obj)) (s:Shared) (σ:St) (H:Hp) (x y:V) (v u:Value) (Q:VK),Inv X pins σ H s->RelV x v->RelV y u->r x y H Q->
  subscripted slice false v u=operate [v,u] (getItem v u)->wpAny (model X.prog X.w) X.A (subscriptTail value slice v u) (EP X pins σ Q) X.xe s
def MtR (X:Cx) (id:String) (r:V->List V->Hp->VK->Prop):Prop:=
 ∀(pins:List (Addr×Obj)) (s:Shared) (σ:St) (H:Hp) (x:V) (xs:List V) (v:Value) (us:List Value) (Q:VK),Inv X pins σ H s->RelV x v->Vals xs us->r x xs H Q->
  wpAny (model X.prog X.w) X.A (call (.builtin id) (v::us)) (EP X pins σ Q) X.xe s
section
variable {X:Cx} {a b:Expr} {ta tb:TE} {pos:Pos}
theorem IxR.or {r r':R2} (h:IxR X r) (h':IxR X r'):IxR X (fun x y H Q=>r x y H Q∨r' x y H Q):=by
 intro value slice pins s σ H x y v u Q I rx ry q hs
 rcases q with q|q
 .exact h value slice pins s σ H x y v u Q I rx ry q hs
 .exact h' value slice pins s σ H x y v u Q I rx ry q hs
theorem Ay6 {r:R2} (hr:IxR X r) (ha:PE X a ta) (hb:PE X b tb) (hs:Qz b):PE X (.Subscript a b pos) (tOp r ta tb):=by
 intro pins s σ H Q I h
 exact Subscript_ (Au4 ha hb I h fun v u s2 x y H2 I2 rx ry q=>hr a b pins s2 σ H2 x y v u Q I2 rx ry q (hs _ _))
def Ay7 (K:PySem.W.Frag):R2:=fun x y H Q=>∃p xs i v,x=.ref p∧y=.int i∧SqL K H p xs∧atI xs i=some v∧Q v H
def Ay8 (K:PySem.W.Frag):R2:=fun x y H Q=>∃p xs i v,x=.ref p∧y=.int i∧SqT K H p xs∧atI xs i=some v∧Q v H
def Ay9:R2:=fun x y H Q=>∃z i c,x=.str z∧y=.int i∧z.length≤sizeLine∧atI z.cps.toList i=some c∧Q (.str ⟨#[c]⟩) H
theorem Aps:IxR X (Ay7 X.K):=by
 intro value slice pins s σ H x y v u Q I rx ry h hs
 obtain⟨p,xs,i,z,rfl,rfl,hq,he,q⟩:=h
 cases rx
 obtain⟨t,rfl⟩:=ry
 obtain⟨its,r,pl,hz⟩:=I.list hq
 obtain⟨j,h1,h2,h3,h4,h5⟩:=Aam he
 obtain⟨w,ew,rw'⟩:=r.get h2
 have hl:=r.length
 have hn:=R7
 have fin:EP X pins σ Q w s:=⟨z,H,I,rw',q⟩
 by_cases h0:0≤i
 .have hj:i.toNat=j:=by
   rw[seqIndex_of h0 h5] at h1
   exact Option.some.inj h1
  exact item_listR pl.isList h0 (by omega) (by rw[hj];simpa using ew) fin hs
 .have hj:(i+(its.toArray.size:Int)).toNat=j:=by
   rw[seqIndex_neg (by omega) h4] at h1
   rw[List.size_toArray,←hl]
   exact Option.some.inj h1
  exact subscriptTail_builtinR (x:=w) pl.isList.typeIs slot_list_getitem.lookup
   (wpAny_getItem_list_neg (Q:=fun r s'=>r=w∧EP X pins σ Q r s') pl.isList (by omega) (by rw[List.size_toArray] <;> omega) (by omega) (by rw[hj];simpa using ew) ⟨rfl,fin⟩) hs
theorem Aq:IxR X (Ay8 X.K):=by
 intro value slice pins s σ H x y v u Q I rx ry h hs
 obtain⟨p,xs,i,z,rfl,rfl,hq,he,q⟩:=h
 cases rx
 obtain⟨t,rfl⟩:=ry
 obtain⟨its,r,pl,hz⟩:=I.tuple hq
 obtain⟨j,h1,h2,h3,h4,h5⟩:=Aam he
 obtain⟨w,ew,rw'⟩:=r.get h2
 have hl:=r.length
 have hn:=R7
 have fin:EP X pins σ Q w s:=⟨z,H,I,rw',q⟩
 exact subscriptTail_builtinR (x:=w) pl.typeIs slot_tuple_getitem.lookup
  (getItem_tuple (j:=j) (Q:=fun r s'=>r=w∧EP X pins σ Q r s') pl (by omega) (by omega) (by rw[List.size_toArray,←hl];exact h1) (by simpa using ew) ⟨rfl,fin⟩) hs
theorem Aan:IxR X Ay9:=by
 intro value slice pins s σ H x y v u Q I rx ry h hs
 obtain⟨z,i,c,rfl,rfl,hz,he,q⟩:=h
 obtain⟨t,rfl⟩:=rx
 obtain⟨t',rfl⟩:=ry
 obtain⟨j,h1,h2,h3,h4,h5⟩:=Aam he
 have hl:z.cps.toList.length=z.length:=by simp[Str.length]
 rw[hl] at h1 h4 h5
 have hn:=R7
 exact tail_any (typeIs_str s z t) slot_str_getitem.lookup (getItem_str (c:=c) (by
  have e1:decide (i < -(2 ^ 63:Int))=false:=decide_eq_false (by omega)
  have e2:decide (i≥2 ^ 63)=false:=decide_eq_false (by omega)
  rw[e1,e2,Bool.or_false]) (by rw[h1];simpa using h2) ⟨.str ⟨#[c]⟩,H,I.tok _,⟨_,rfl⟩,q⟩) hs
def rIx (K:PySem.W.Frag):R2:=fun x y H Q=>Ay7 K x y H Q∨Ay8 K x y H Q∨Ay9 x y H Q
theorem Avl:IxR X (rIx X.K):=Aps.or (Aq.or Aan)
theorem Aao (lo hi:Option Int) (n:Nat):(sliceBounds lo hi none n).1=((HT.sIx n 0 lo:Nat):Int)∧(sliceBounds lo hi none n).2.1=((HT.sIx n n hi:Nat):Int)∧(sliceBounds lo hi none n).2.2=1:=by
 refine⟨?_,?_,rfl⟩
 .cases lo with
  |none=>simp[sliceBounds,HT.sIx]
  |some i=>
   simp only[sliceBounds,HT.sIx,Option.getD_none,show (1:Int) > 0 by decide,if_true]
   by_cases h:i < 0
   .simp only[h,if_true] <;> omega
   .simp only[h,if_false] <;> omega
 .cases hi with
  |none=>simp[sliceBounds,HT.sIx]
  |some i=>
   simp only[sliceBounds,HT.sIx,Option.getD_none,show (1:Int) > 0 by decide,if_true]
   by_cases h:i < 0
   .simp only[h,if_true] <;> omega
   .simp only[h,if_false] <;> omega
theorem Yh (its:List Value) (lo hi:Option Int):slicePick its.toArray lo hi none=((its.drop (HT.sIx its.length 0 lo)).take (HT.sIx its.length its.length hi - HT.sIx its.length 0 lo)).toArray:=by
 obtain⟨h1,h2,h3⟩:=Aao lo hi its.toArray.size
 unfold slicePick
 rw[h1,h2,h3]
 simp only[sliceRange_one,pick_run,List.size_toArray] <;> rfl
def Aza (K:PySem.W.Frag):V->Option Int->Option Int->Hp->VK->Prop:=fun x lo hi H Q=>∃a xs,x=.ref a∧SqL K H a xs∧∀p,H p=none->Q (.ref p) (upd H p (.lst (Yg xs lo hi)))
theorem Apt:SlR X (Aza X.K):=by
 intro pins s σ H x v vl vu lo hi sl Q I rx hs pl pu h
 obtain⟨a,xs,rfl,hx,q⟩:=h
 cases rx
 obtain⟨its,r,ht,hz⟩:=I.list hx
 have hlen:=r.length
 refine⟨"list",_,slot_list_getitem.lookup,ht.isList.typeIs,?_⟩
 refine wpAny_getItem_list_slice ht.isList hs pl pu .none (by simp) ?_ (by rw[List.size_toArray] <;> omega)
 rw[Yh,←hlen]
 refine⟨.ref s.heap.objs.size,_,I.laid (t':=s.toks) (o:=.lst (Yg xs lo hi)) (fun b ob q=>Heap.get?_push_of_some _ q) (Nat.le_refl _) ?_,rfl,q _ (I.hok.fresh (Nat.le_refl _))⟩
 exact⟨Nat.le_trans (Uj xs lo hi) hz,_,0,(r.drop (HT.sIx xs.length 0 lo)).take (HT.sIx xs.length xs.length hi - HT.sIx xs.length 0 lo),Heap.get?_push_size _ rfl⟩
def Fv:V->Bool
 |.non=>true
 |.bl _=>true
 |.int _=>true
 |.str _=>true
 |_=>false
def eqV:V->V->Bool
 |.non,.non=>true
 |.bl a,.bl b=>a==b
 |.bl a,.int b=>(if a then 1 else 0)==b
 |.int a,.bl b=>a==(if b then 1 else 0)
 |.int a,.int b=>a==b
 |.str a,.str b=>a==b
 |_,_=>false
theorem Avm {A:Around} {s:Shared} {y x:V} {u v:Value} (ry:RelV y u) (rx:RelV x v) (fy:Fv y=true) (fx:Fv x=true):SeqAt.EqAt A s u v (eqV y x):=by
 cases y with
 |non=>
  cases ry
  cases x with
  |non=>cases rx;exact SeqAt.EqAt.same _
  |bl b=>cases rx;exact SeqAt.EqAt.none_bool b
  |int b=>obtain⟨t,rfl⟩:=rx;exact SeqAt.EqAt.none_int b t
  |str b=>obtain⟨t,rfl⟩:=rx;exact SeqAt.EqAt.none_str b t
  |_=>exact absurd (show false=true from fx) Bool.false_ne_true
 |bl a=>
  cases ry
  cases x with
  |non=>cases rx;exact SeqAt.EqAt.bool_none a
  |bl b=>cases rx;exact SeqAt.EqAt.bool_bool a b
  |int b=>obtain⟨t,rfl⟩:=rx;exact SeqAt.EqAt.bool_int a b t
  |str b=>obtain⟨t,rfl⟩:=rx;exact SeqAt.EqAt.bool_str a b t
  |_=>exact absurd (show false=true from fx) Bool.false_ne_true
 |int a=>
  obtain⟨t',rfl⟩:=ry
  cases x with
  |non=>cases rx;exact SeqAt.EqAt.int_none a t'
  |bl b=>cases rx;exact SeqAt.EqAt.int_bool a t' b
  |int b=>obtain⟨t,rfl⟩:=rx;exact SeqAt.EqAt.int_int a t' b t
  |str b=>obtain⟨t,rfl⟩:=rx;exact SeqAt.EqAt.int_str a t' b t
  |_=>exact absurd (show false=true from fx) Bool.false_ne_true
 |str a=>
  obtain⟨t',rfl⟩:=ry
  cases x with
  |non=>cases rx;exact SeqAt.EqAt.str_none a t'
  |bl b=>cases rx;exact SeqAt.EqAt.str_bool a t' b
  |int b=>obtain⟨t,rfl⟩:=rx;exact SeqAt.EqAt.str_int a t' b t
  |str b=>obtain⟨t,rfl⟩:=rx;exact SeqAt.EqAt.str_str a t' b t
  |_=>exact absurd (show false=true from fx) Bool.false_ne_true
 |_=>exact absurd (show false=true from fy) Bool.false_ne_true
def eqU (x:V) (u:Value):Bool:=match u with
 |.none=>eqV .non x
 |.bool b=>eqV (.bl b) x
 |.int i _=>eqV (.int i) x
 |.str z _=>eqV (.str z) x
 |_=>false
theorem Alm {x y:V} {u:Value} (r:RelV y u) (f:Fv y=true):eqU x u=eqV y x:=by
 cases y with
 |non=>cases r;rfl
 |bl b=>cases r;rfl
 |int i=>obtain⟨t,rfl⟩:=r;rfl
 |str z=>obtain⟨t,rfl⟩:=r;rfl
 |_=>exact absurd (show false=true from f) Bool.false_ne_true
theorem Q0 {x:V}:∀{xs:List V} {us:List Value},Vals xs us->xs.all Fv=true->us.any (eqU x)=xs.any fun y=>eqV y x
 |_,_,.nil,_=>rfl
 |y::xs,u::us,.cons r t,f=>by
  rw[List.all_cons,Bool.and_eq_true] at f
  rw[List.any_cons,List.any_cons,Alm r f.1,Q0 t f.2]
theorem Nh {A:Around} {s:Shared} {x:V} {v:Value} (rx:RelV x v) (fx:Fv x=true):∀{xs:List V} {us:List Value},Vals xs us->xs.all Fv=true->∀u∈us,SeqAt.EqAt A s u v (eqU x u)
 |_,_,.nil,_=>fun u hu=>by cases hu
 |y::xs,u::us,.cons r t,f=>fun u' hu=>by
  rw[List.all_cons,Bool.and_eq_true] at f
  rcases List.mem_cons.mp hu with rfl|hu
  .rw[Alm r f.1];exact Avm r rx f.1 fx
  .exact Nh rx fx t f.2 u' hu
def inV (x:V) (xs:List V):Bool:=xs.any fun y=>eqV y x
def rIn (K:PySem.W.Frag) (neg:Bool):R2:=fun x y H Q=>∃p xs,y=.ref p∧(SqL K H p xs∨SqT K H p xs)∧Fv x=true∧xs.all Fv=true∧Q (.bl (if neg then !inV x xs else inV x xs)) H
theorem Ai8:OpR X (compareOp .In) (rIn X.K false):=by
 intro pins s σ H x y v u Q I rx ry h
 obtain⟨p,xs,rfl,hq,fx,fs,q⟩:=h
 cases ry
 rcases hq with hq|hq
 .obtain⟨its,r,pl,hz⟩:=I.list hq
  refine SeqAt.in_listAt (eqU x) pl.isList (fun w hw=>Nh rx fx r fs w (by simpa using hw)) ⟨.bl _,H,I,rfl,?_⟩
  rw[show its.toArray.any (eqU x)=its.any (eqU x) by simp,Q0 r fs]
  exact q
 .obtain⟨its,r,pl,hz⟩:=I.tuple hq
  refine SeqAt.in_tupleAt (eqU x) pl (fun w hw=>Nh rx fx r fs w (by simpa using hw)) ⟨.bl _,H,I,rfl,?_⟩
  rw[show its.toArray.any (eqU x)=its.any (eqU x) by simp,Q0 r fs]
  exact q
theorem Aap:OpR X (compareOp .NotIn) (rIn X.K true):=by
 intro pins s σ H x y v u Q I rx ry h
 obtain⟨p,xs,rfl,hq,fx,fs,q⟩:=h
 cases ry
 rcases hq with hq|hq
 .obtain⟨its,r,pl,hz⟩:=I.list hq
  refine SeqAt.notIn_listAt (eqU x) pl.isList (fun w hw=>Nh rx fx r fs w (by simpa using hw)) ⟨.bl _,H,I,rfl,?_⟩
  rw[show its.toArray.any (eqU x)=its.any (eqU x) by simp,Q0 r fs]
  exact q
 .obtain⟨its,r,pl,hz⟩:=I.tuple hq
  refine SeqAt.notIn_tupleAt (eqU x) pl (fun w hw=>Nh rx fx r fs w (by simpa using hw)) ⟨.bl _,H,I,rfl,?_⟩
  rw[show its.toArray.any (eqU x)=its.any (eqU x) by simp,Q0 r fs]
  exact q
theorem Aaq:OpR X (compareOp .NotIn) (fun x y H Q=>∃i j,x=.str i∧y=.str j∧Q (.bl (!(!(Builtin.Str.occurrences j i 0 j.length 1).isEmpty))) H):=by
 intro pins s σ H x y v u Q I rx ry h
 obtain⟨i,j,rfl,rfl,q⟩:=h
 obtain⟨t,rfl⟩:=rx
 obtain⟨t',rfl⟩:=ry
 exact notIn_str ⟨.bl _,H,I,rfl,q⟩
theorem Gw.or {f:Value} {r r':List V->Hp->VK->Prop} (h:Gw X f r) (h':Gw X f r'):Gw X f (fun xs H Q=>r xs H Q∨r' xs H Q):=by
 intro pins s σ H xs us Q I rs q
 rcases q with q|q
 .exact h pins s σ H xs us Q I rs q
 .exact h' pins s σ H xs us Q I rs q
theorem Aar:Gw X (.type "list") (fun xs H Q=>∃p ys,xs=[.ref p]∧(SqL X.K H p ys∨SqT X.K H p ys)∧∀l,H l=none->Q (.ref l) (upd H l (.lst ys))):=by
 intro pins s σ H xs us Q I r h
 obtain⟨p,ys,rfl,hq,q⟩:=h
 obtain⟨u,rfl,rx⟩:=vals1 r
 cases rx
 have fin:∀(its:List Value),Vals ys its->ys.length≤sizeLine->∀(h':Heap) (c':Nat),(∀b o',s.heap.get? b=some o'->h'.get? b=some o')->
   h'.get? s.heap.objs.size=some { cls:=.type "list",dict:=none,data:=.seq its.toArray c',slots:=#[] }->EP X pins σ Q (.ref s.heap.objs.size) { s with heap:=h' }:=fun its r' hz h' c' kp e=>
  ⟨.ref s.heap.objs.size,_,I.laid (t':=s.toks) kp (Nat.le_refl _) (show Dc X.prog X.w _ h' _ (.lst ys) from ⟨hz,its,c',r',e⟩),rfl,q _ (I.hok.fresh (Nat.le_refl _))⟩
 rcases hq with hq|hq
 .obtain⟨its,r',pl,hz⟩:=I.list hq
  have hlen:=r'.length
  obtain⟨o,ho,hc,n,hd⟩:=pl.isList
  exact call_list_seq p (.inl rfl) ho hc hd (fun h' c' kp e=>fin its r' hz h' c' kp e) (by simp only[List.size_toArray] <;> omega)
 .obtain⟨its,r',pl,hz⟩:=I.tuple hq
  have hlen:=r'.length
  obtain⟨o,ho,hc,n,hd⟩:=pl
  exact call_list_seq p (.inr rfl) ho hc hd (fun h' c' kp e=>fin its r' hz h' c' kp e) (by simp only[List.size_toArray] <;> omega)
theorem Yi:Gw X (.type "tuple") (fun xs H Q=>∃p ys,xs=[.ref p]∧((SqL X.K H p ys∧∀l,H l=none->Q (.ref l) (upd H l (.tup ys)))∨(SqT X.K H p ys∧Q (.ref p) H))):=by
 intro pins s σ H xs us Q I r h
 obtain⟨p,ys,rfl,h⟩:=h
 obtain⟨u,rfl,rx⟩:=vals1 r
 cases rx
 rcases h with ⟨hq,q⟩|⟨hq,q⟩
 .obtain⟨its,r',pl,hz⟩:=I.list hq
  have hlen:=r'.length
  refine call_tuple_list pl.isList (fun h' kp=>?_) (by simp only[List.size_toArray] <;> omega)
  have I1:Inv X pins σ H { s with heap:=h' }:=I.kept (t':=s.toks) kp
  have I2:Inv X pins σ (upd H h'.objs.size (.tup ys)) { s with heap:=h'.push { cls:=.type "tuple",data:=.seq its.toArray } }:=
   I1.laid (t':=s.toks) (fun b o e=>Heap.get?_push_of_some _ e) (Nat.le_refl _) (show Dc X.prog X.w _ _ _ (.tup ys) from ⟨hz,its,r',IsTup.new _ _⟩)
  exact⟨.ref h'.objs.size,_,I2,rfl,q _ (I1.hok.fresh (Nat.le_refl _))⟩
 .obtain⟨its,r',pl,hz⟩:=I.tuple hq
  exact call_tuple_same pl ⟨.ref p,H,I,rfl,q⟩
def tyV (K:PySem.W.Frag) (T:String) (x:V) (H:Hp):Prop:=match x with
 |.str _=>T="str"
 |.int _=>T="int"
 |.ref p=>(T="list"∧∃xs,SqL K H p xs)∨(T="tuple"∧∃o,K.lookup p=some o∧o.cls=.type "tuple"∧o.dict=none)∨
   (T="dict"∧((∃kvs,H p=some (.dK kvs))∨∃kvs,H p=some (.dT kvs)))∨(T="set"∧∃S n,H p=some (.set S n))
 |_=>False
theorem Avn {pins:List (Addr×Obj)} {σ:St} {H:Hp} {s:Shared} {T:String} {x:V} {v:Value} (I:Inv X pins σ H s) (r:RelV x v) (ty:tyV X.K T x H) :
  s.TypeIs v T∧∀a,v=.ref a->∃ob,s.heap.get? a=some ob∧ob.dict=none:=by
 cases x with
 |str z=>
  obtain⟨t,rfl⟩:=r
  cases (show T="str" from ty)
  exact⟨typeIs_str s z t,fun _ e=>nomatch e⟩
 |int i=>
  obtain⟨t,rfl⟩:=r
  cases (show T="int" from ty)
  exact⟨typeIs_int s i t,fun _ e=>nomatch e⟩
 |ref p=>
  cases r
  rcases ty with ⟨rfl,xs,hq⟩|⟨rfl,o,hk,hc,hd⟩|⟨rfl,hk⟩|⟨rfl,S,n,hk⟩
  .obtain⟨its,_,pl,_⟩:=I.list hq
   refine⟨pl.isList.typeIs,fun a e=>?_⟩
   cases e
   obtain⟨o,n,e,c,hd,_⟩:=pl
   exact⟨o,e,hd⟩
  .refine⟨⟨o,I.kIn p o hk,hc⟩,fun a e=>?_⟩
   cases e
   exact⟨o,I.kIn _ o hk,hd⟩
  .have z:∃o,s.heap.get? p=some o∧o.ExactDict:=by
    rcases hk with ⟨kvs,hk⟩|⟨kvs,hk⟩
    .obtain⟨_,_,_,_,o,_,_,e,ex,_⟩:=I.hok p _ hk
     exact⟨o,e,ex⟩
    .obtain⟨_,_,_,_,o,_,_,e,ex,_⟩:=I.hok p _ hk
     exact⟨o,e,ex⟩
   obtain⟨o,e,ex⟩:=z
   refine⟨⟨o,e,ex.1⟩,fun a e2=>?_⟩
   cases e2
   exact⟨o,e,ex.2.1⟩
  .obtain⟨o,_,_,_,e,ex,_⟩:=I.hok p _ hk
   refine⟨⟨o,e,ex.1⟩,fun a e2=>?_⟩
   cases e2
   exact⟨o,e,ex.2.1⟩
 |_=>exact False.elim ty
def tBM (K:PySem.W.Frag) (T:String) (r:V->List V->Hp->VK->Prop) (to:TE) (t:TA):TE:=fun σ H Q=>to σ H fun x H1=>tyV K T x H1∧t σ H1 fun xs H2=>r x xs H2 Q
variable {o e:Expr} {es:List Expr} {to:TE} {t:TA} {name:Str} {apos cpos:Pos} {T id:String} {r:V->List V->Hp->VK->Prop}
theorem Azb (pa:PlainAttrs T) (slot:Slot T name id) (hty:typeOf (.builtin id)=pure (.type "method_descriptor")) (hm:MtR X id r) (ho:PE X o to) (ha:PA X (e::es) t)
  (hbase:attributeBase o name X.env (eval o X.env)=eval o X.env:=by rfl)
  (hfew:((backTo cpos (starEach (e::es) X.env)).all (fun x=>!x.1)&&(backToKw cpos (keywordEach [] X.env)).all (fun x=>x.1.isSome)
   &&decide ((e::es).length+([]:List Keyword).length+(if ([]:List Keyword).isEmpty then 0 else 1) < 30))=true:=by rfl)
  (hline:(apos.endLine==cpos.line)=true:=by rfl) (hs:starEach (e::es) X.env=(false,eval e X.env)::starEach es X.env:=by rfl) (hplain:(backTo cpos (starEach es X.env)).any (·.1)=false:=by rfl) :
  PE X (.Call (.Attribute o name apos) (e::es) [] cpos) (tBM X.K T r to t):=by
 intro pins s σ H Q I h
 refine wpAny_Call_method_late hbase hfew hline rfl (thn (ho pins s σ H _ I h) fun v s1 ⟨x,H1,I1,r1,ty,q1⟩=>?_)
 obtain⟨h1,h2⟩:=Avn I1 r1 ty
 refine⟨T,id,pa,slot,hty,h1,h2,?_⟩
 have hA:=ha cpos pins s1 σ H1 _ I1 q1
 rw[hs] at hA ⊢
 refine Calls.callWith_builtin (by show (false||(backTo cpos (starEach es X.env)).any (·.1))=false;rw[hplain] <;> rfl) (Calls.evalArgs_plain ?_)
 exact thn hA fun us s2 ⟨vs,H2,I2,r2,q2⟩=>hm pins s2 σ H2 x vs v us Q I2 r1 r2 q2
end
def MtM (X:Cx) (id:String) (r:V->List V->Hp->VK->Prop):Prop:=
 ∀(pins:List (Addr×Obj)) (s:Shared) (σ:St) (H:Hp) (x:V) (xs:List V) (v:Value) (us:List Value) (Q:VK),Inv X pins σ H s->RelV x v->Vals xs us->r x xs H Q->
  wpAny (model X.prog X.w) X.A (call (.builtin id) (v::us)) (EP X pins σ Q) X.xe s
theorem Vals.one:∀{x:V} {us:List Value},Vals [x] us->∃u,us=[u]∧RelV x u
 |_,_,.cons r .nil=>⟨_,rfl,r⟩
theorem Vals.two:∀{x y:V} {us:List Value},Vals [x,y] us->∃u v,us=[u,v]∧RelV x u∧RelV y v
 |_,_,_,.cons r (.cons q .nil)=>⟨_,_,rfl,r,q⟩
theorem Vals.eraseIdx:∀{xs:List V} {us:List Value} (i:Nat),Vals xs us->Vals (xs.eraseIdx i) (us.eraseIdx i)
 |_,_,_,.nil=>.nil
 |_,_,0,.cons _ t=>t
 |_,_,i+1,.cons r t=>.cons r (Vals.eraseIdx i t)
theorem Vals.rep {xs:List V} {us:List Value} (h:Vals xs us):∀k:Nat,Vals (List.replicate k xs).flatten (List.replicate k us).flatten
 |0=>.nil
 |k+1=>by
  rw[List.replicate_succ,List.replicate_succ,List.flatten_cons,List.flatten_cons]
  exact Vals.append h (Vals.rep h k)
theorem Y4 {α:Type}:∀(l:List α) (i:Nat),(l.eraseIdx i).length≤l.length
 |[],_=>Nat.le_refl _
 |_::_,0=>Nat.le_succ _
 |_::r,i+1=>Nat.succ_le_succ (Y4 r i)
theorem foldl_rep (its:List Value):∀(k:Nat) (acc:List Value),
  List.foldl (fun x1 x2=>x1 ++ x2) acc.toArray (List.replicate k its.toArray)=(acc ++ (List.replicate k its).flatten).toArray
 |0,acc=>by simp
 |k+1,acc=>by
  have e:acc.toArray ++ its.toArray=(acc ++ its).toArray:=by simp
  have e2:(acc ++ its) ++ (List.replicate k its).flatten=acc ++ (List.replicate (k+1) its).flatten:=by
   rw[List.replicate_succ,List.flatten_cons,List.append_assoc]
  rw[←e2,←foldl_rep its k (acc ++ its),←e,List.replicate_succ,List.foldl_cons]
section
variable {X:Cx} {pins:List (Addr×Obj)} {σ:St} {H:Hp} {s:Shared} {l b:Addr} {xs ys zs:List V}
theorem Inv.lset {its its':List Value} {n:Nat} {f:Array Value->Array Value} {t':Nat} (I:Inv X pins σ H s) (hH:H l=some (.lst xs))
  (e:s.heap.get? l=some { cls:=.type "list",data:=.seq its.toArray n }) (hf:f its.toArray=its'.toArray) (hv:Vals ys its') (hz:ys.length≤sizeLine) :
  Inv X pins σ (upd H l (.lst ys)) { s with heap:=s.heap.update l (Obj.mapSeq f),toks:=t' }:=by
 have q:=PySem.IsL.update e f
 rw[hf] at q
 refine I.write (x:=l) (e:=l) (by rw[hH];exact trivial) (.inl rfl) (fun b' u hb hu=>(Heap.get?_update_other s.heap (Obj.mapSeq f) (Ne.symm hb)).trans hu) ⟨_,q⟩ ?_
 exact⟨hz,its',_,hv,q⟩
theorem Inv.lnew {its:List Value} {t':Nat} (I:Inv X pins σ H s) (hv:Vals ys its) (hz:ys.length≤sizeLine) :
  Inv X pins σ (upd H s.heap.objs.size (.lst ys)) { s with heap:=s.heap.push { cls:=.type "list",data:=.seq its.toArray },toks:=t' }:=
 I.laid (fun _ _ q=>Heap.get?_push_of_some _ q) (Nat.le_refl _) ⟨hz,its,0,hv,Heap.get?_push_size _ rfl⟩
theorem Inv.fresh (I:Inv X pins σ H s):H s.heap.objs.size=none:=I.hok.fresh (Nat.le_refl _)
theorem Inv.lstM (I:Inv X pins σ H s) (hH:H l=some (.lst xs)):xs.length≤sizeLine∧∃(its:List Value) (n:Nat),Vals xs its∧xs.length=its.length∧s.heap.get? l=some { cls:=.type "list",data:=.seq its.toArray n }:=by
 obtain⟨z,its,n,r,e⟩:=I.hok l _ hH
 exact⟨z,its,n,r,r.length,e⟩
theorem Acv {n:Nat} (h:n≤sizeLine):Builtin.List.listTooLong n=false:=by
 unfold Builtin.List.listTooLong
 exact decide_eq_false (by omega)
end
section
variable {X:Cx}
def Ahd:V->List V->Hp->VK->Prop:=fun x vs H Q=>∃l xs y,x=.ref l∧vs=[y]∧H l=some (.lst xs)∧xs.length < sizeLine∧Q .non (upd H l (.lst (xs ++ [y])))
theorem Y5:MtM X "list.append" Ahd:=by
 intro pins s σ H x vs v us Q I rx rv h
 obtain⟨l,xs,y,rfl,rfl,hH,hz,q⟩:=h
 cases rx
 obtain⟨u,rfl,ru⟩:=rv.one
 obtain⟨z,its,n,r,hl,e⟩:=I.lstM hH
 refine call_meets F.slot_list_append ⟨_,e,rfl⟩ F.entry_list_append (F.args_list_append_2 _ _) (PySem.list_append l its.toArray n u (by rw[List.size_toArray];omega)) ⟨e,?_⟩
 refine⟨.non,_,I.lset (its':=its ++ [u]) hH e (by simp) (r.append (.cons ru .nil)) ?_,rfl,q⟩
 rw[List.length_append,List.length_singleton]
 omega
def Apu:V->List V->Hp->VK->Prop:=fun x vs H Q=>∃l b xs zs,x=.ref l∧vs=[.ref b]∧H l=some (.lst xs)∧H b=some (.lst zs)∧xs.length+zs.length≤sizeLine∧Q .non (upd H l (.lst (xs ++ zs)))
theorem Ayb:MtM X "list.extend" Apu:=by
 intro pins s σ H x vs v us Q I rx rv h
 obtain⟨l,b,xs,zs,rfl,rfl,hH,hB,hz,q⟩:=h
 cases rx
 obtain⟨u,rfl,ru⟩:=rv.one
 cases ru
 obtain⟨z,its,n,r,hl,e⟩:=I.lstM hH
 obtain⟨z2,its2,n2,r2,hl2,e2⟩:=I.lstM hB
 have hsz:its.toArray.size+its2.toArray.size≤sizeLine:=by rw[List.size_toArray,List.size_toArray];omega
 have hlong:¬ (!its.toArray.isEmpty&&Builtin.List.listTooLong (its.toArray.size+its2.toArray.size))=true:=by
  rw[Acv hsz,Bool.and_false]
  exact Bool.false_ne_true
 refine call_meets F.slot_list_extend ⟨_,e,rfl⟩ F.entry_list_extend (F.args_list_extend_2 _ _)
  (AutoSeq1.list_extend_list_list_0 l its.toArray n b its2.toArray n2 hlong (by rw[List.size_toArray];omega) (by omega)) ⟨e,e2,?_⟩
 refine⟨.non,_,I.lset (its':=its ++ its2) hH e (by simp) (r.append r2) ?_,rfl,q⟩
 rw[List.length_append]
 omega
def Aln:V->List V->Hp->VK->Prop:=fun x vs H Q=>∃l xs i k y,x=.ref l∧vs=[.int i]∧H l=some (.lst xs)∧-(2 ^ 63)≤i∧i < 2 ^ 63∧seqIndex? i xs.length=some k∧xs[k]?=some y∧Q y (upd H l (.lst (xs.eraseIdx k)))
theorem Alo:MtM X "list.pop" Aln:=by
 intro pins s σ H x vs v us Q I rx rv h
 obtain⟨l,xs,i,k,y,rfl,rfl,hH,h1,h2,hk,hy,q⟩:=h
 cases rx
 obtain⟨u,rfl,ru⟩:=rv.one
 obtain⟨t,rfl⟩:=ru
 obtain⟨z,its,n,r,hl,e⟩:=I.lstM hH
 obtain⟨w,hw,rw'⟩:=r.get hy
 refine call_meets F.slot_list_pop ⟨_,e,rfl⟩ F.entry_list_pop (F.args_list_pop_2 _ _)
  (MeetsSeq.list_pop_at l its.toArray n i t k w (fitsIndex_both h1 h2) (by rw[List.size_toArray,←hl];exact hk) (by rw[←Array.getElem?_toList];exact hw) (by rw[List.size_toArray];omega)) ⟨e,?_⟩
 refine⟨y,_,I.lset (its':=its.eraseIdx k) hH e ?_ (r.eraseIdx k) ?_,rw',q⟩
 .show its.toArray.eraseIdxIfInBounds k=(its.eraseIdx k).toArray
  rw[List.eraseIdxIfInBounds_toArray]
 .have:=Y4 xs k
  omega
def Azc:R2:=fun x y H Q=>∃l b xs zs,x=.ref l∧y=.ref b∧H l=some (.lst xs)∧H b=some (.lst zs)∧xs.length+zs.length≤sizeLine∧∀p,H p=none->Q (.ref p) (upd H p (.lst (xs ++ zs)))
theorem Avo:OpR X (binaryOp .Add) Azc:=by
 intro pins s σ H x y v u Q I rx ry h
 obtain⟨l,b,xs,zs,rfl,rfl,hH,hB,hz,q⟩:=h
 cases rx
 cases ry
 obtain⟨z,its,n,r,hl,e⟩:=I.lstM hH
 obtain⟨z2,its2,n2,r2,hl2,e2⟩:=I.lstM hB
 refine PySem.P.add_list e e2 ?_ (by rw[List.size_toArray,List.size_toArray];omega)
 have ea:its.toArray ++ its2.toArray=(its ++ its2).toArray:=by simp
 rw[ea]
 exact⟨.ref _,_,I.lnew (t':=s.toks) (r.append r2) (by rw[List.length_append];omega),rfl,q _ I.fresh⟩
def Azd:R2:=fun x y H Q=>∃l k xs,x=.ref l∧y=.int k∧H l=some (.lst xs)∧-(2 ^ 63)≤k∧k < 2 ^ 63∧xs.length * k.toNat≤sizeLine∧
 ∀p,H p=none->Q (.ref p) (upd H p (.lst (List.replicate k.toNat xs).flatten))
theorem len_rep {α:Type} (xs:List α) (k:Nat):(List.replicate k xs).flatten.length=k * xs.length:=by
 induction k with
 |zero=>simp
 |succ k ih=>rw[List.replicate_succ,List.flatten_cons,List.length_append,ih,Nat.succ_mul,Nat.add_comm]
theorem Avp:OpR X (binaryOp .Mult) Azd:=by
 intro pins s σ H x y v u Q I rx ry h
 obtain⟨l,k,xs,rfl,rfl,hH,h1,h2,hz,q⟩:=h
 cases rx
 obtain⟨t,rfl⟩:=ry
 obtain⟨z,its,n,r,hl,e⟩:=I.lstM hH
 have hlen:its.toArray.size * k.toNat≤sizeLine:=by rw[List.size_toArray,←hl];exact hz
 have hcap:¬ its.toArray.size * k.toNat > (2 ^ 63 - 1) / 8:=by
  have:(sizeLine:Nat)≤(2 ^ 63 - 1) / 8:=by decide
  omega
 have hfit:¬ (!Builtin.List.listFitsIndex k)=true:=by
  rw[fitsIndex_both h1 h2]
  exact Bool.false_ne_true
 have hlong:¬ Builtin.List.listTooLong (its.toArray.size * k.toNat)=true:=by
  rw[Acv hlen]
  exact Bool.false_ne_true
 have hnew:List.foldl (fun x1 x2=>x1 ++ x2) #[] (List.replicate (if its.toArray.isEmpty=true then 0 else k.toNat) its.toArray)=(List.replicate k.toNat its).flatten.toArray:=by
  have f0:∀m:Nat,List.foldl (fun x1 x2=>x1 ++ x2) #[] (List.replicate m its.toArray)=(List.replicate m its).flatten.toArray:=fun m=>by
   have:=foldl_rep its m []
   rw[List.nil_append] at this
   exact this
  rw[f0]
  cases its with
  |nil=>simp
  |cons a r'=>rw[if_neg (by simp)]
 refine wpAny_binaryOp_repeat_ref (T:="list") (U:="int") (by decide) ⟨_,e,rfl⟩ (fun s'=>typeIs_int s' k t) noFill_list_mul F.fills_int_mul F.slot_int_rmul repeat_list F.slot_int_index.lookup
  (call_meets F.slot_int_rmul (typeIs_int s k t) F.entry_int_rmul (F.args_int_rmul_2 _ _) (int___rmul___int_list k t l its.toArray n)
   ⟨e,rfl,⟨_,e,rfl⟩,call_meets F.slot_list_mul ⟨_,e,rfl⟩ F.entry_list_mul (F.args_list_mul_2 _ _) (AutoListH.list___mul___list_int_3 l its.toArray n k t hfit hcap hlong) ⟨e,?_⟩⟩)
 rw[hnew]
 exact⟨.ref _,_,I.lnew (t':=s.toks) (r.rep k.toNat) (by rw[len_rep,Nat.mul_comm];exact hz),rfl,q _ I.fresh⟩
end
section
variable {κ:Type} [DecidableEq κ]
def Qa (kvs:List (κ×V)) (k:κ):Option V:=(kvs.find? fun kv=>decide (kv.1=k)).map (·.2)
def putK (kvs:List (κ×V)) (k:κ) (v:V):List (κ×V):=
 if (kvs.any fun kv=>decide (kv.1=k))=true then kvs.map (fun kv=>if kv.1=k then (kv.1,v) else kv) else kvs ++ [(k,v)]
theorem Wc {p:κ×V} {r:List (κ×V)} {k:κ} (e:p.1=k):Qa (p::r) k=some p.2:=by simp[Qa,List.find?_cons,e]
theorem Wd {p:κ×V} {r:List (κ×V)} {k:κ} (e:¬ p.1=k):Qa (p::r) k=Qa r k:=by simp[Qa,List.find?_cons,e]
theorem Acw (k:κ):∀kvs:List (κ×V),(kvs.any fun kv=>decide (kv.1=k))=(Qa kvs k).isSome
 |[]=>rfl
 |p::r=>by
  rw[List.any_cons]
  by_cases e:p.1=k
  .simp only[Wc e,decide_eq_true e,Bool.true_or,Option.isSome_some]
  .rw[Wd e,decide_eq_false e,Bool.false_or];exact Acw k r
theorem Ni (kvs:List (κ×V)) (k:κ) (v:V):(putK kvs k v).length≤kvs.length+1:=by
 unfold putK
 split
 .rw[List.length_map];omega
 .rw[List.length_append,List.length_cons,List.length_nil];omega
theorem V2.isSome_eq {o:Option V} {u:Option Value} (r:V2 o u):o.isSome=u.isSome:=by
 cases o with
 |none=>cases u with
  |none=>rfl
  |some _=>exact(show False from r).elim
 |some _=>cases u with
  |none=>exact(show False from r).elim
  |some _=>rfl
theorem KV.val {kvs:List (κ×V)} {vs:List (κ×Value)} (r:KV kvs vs) (k:κ):V2 (Qa kvs k) (valueAt vs k):=by
 unfold KV at r
 induction r with
 |nil=>exact True.intro
 |@cons p q ps qs h t ih=>
  obtain⟨h1,h2⟩:=h
  by_cases e:p.1=k
  .have e':q.1=k:=h1.symm.trans e
   have b:valueAt (q::qs) k=some q.2:=by simp[valueAt,List.find?_cons,e']
   rw[Wc e,b];exact h2
  .have e':¬ q.1=k:=fun z=>e (h1.trans z)
   have b:valueAt (q::qs) k=valueAt qs k:=by simp[valueAt,List.find?_cons,e']
   rw[Wd e,b];exact ih
theorem KV.any {kvs:List (κ×V)} {vs:List (κ×Value)} (r:KV kvs vs) (k:κ):(kvs.any fun kv=>decide (kv.1=k))=vs.any fun kv=>decide (kv.1=k):=by
 unfold KV at r
 induction r with
 |nil=>rfl
 |cons h t ih=>rw[List.any_cons,List.any_cons,ih,h.1]
theorem KV.repl {kvs:List (κ×V)} {vs:List (κ×Value)} (r:KV kvs vs) (k:κ) {y:V} {u:Value} (ry:RelV y u) :
  KV (kvs.map fun kv=>if kv.1=k then (kv.1,y) else kv) (vs.map fun kv=>if kv.1=k then (kv.1,u) else kv):=by
 unfold KV at r ⊢
 induction r with
 |nil=>exact .nil
 |@cons p q ps qs h t ih=>
  rw[List.map_cons,List.map_cons]
  refine .cons ?_ ih
  obtain⟨h1,h2⟩:=h
  by_cases e:p.1=k
  .rw[if_pos e,if_pos (h1.symm.trans e)];exact⟨h1,ry⟩
  .rw[if_neg e,if_neg (fun z=>e (h1.trans z))];exact⟨h1,h2⟩
theorem KV.put {kvs:List (κ×V)} {vs:List (κ×Value)} (r:KV kvs vs) (k:κ) {y:V} {u:Value} (ry:RelV y u):KV (putK kvs k y) (stored vs k u):=by
 unfold putK stored
 rw[r.any k]
 by_cases e:(vs.any fun kv=>decide (kv.1=k))=true
 .rw[if_pos e,if_pos e];exact r.repl k ry
 .rw[if_neg e,if_neg e];exact Paired.snoc r ⟨rfl,ry⟩
theorem KV.length {kvs:List (κ×V)} {vs:List (κ×Value)} (r:KV kvs vs):kvs.length=vs.length:=Paired.length r
end
theorem Y6 {P:Program} {w:World} {k:Key} {u:Value} (r:RelV (kV k) u):(Ek P w).is k u=true:=by
 cases k with
 |inl i=>obtain⟨t,e⟩:=(show ∃t,u=Value.int i t from r);subst e;exact Acn P w i t
 |inr x=>obtain⟨t,e⟩:=(show ∃t,u=Value.str x t from r);subst e;exact Aco P w x t
theorem Y7 {P:Program} {w:World}:∀{ks:List Key} {us:List Value},Vals (ks.map kV) us->ItemsAre (Ek P w) ks us
 |[],_,r=>by rw[List.map_nil] at r;cases r;exact .nil
 |k::ks,_,r=>by
  rw[List.map_cons] at r
  cases r with
  |cons h t=>exact .cons (Y6 h) (Y7 t)
abbrev KT (H:Hp):List (List Key×V)->List (List Key×Addr×Value)->Prop:=Paired fun p q=>p.1=q.1∧H q.2.1=some (.tup (p.1.map kV))∧RelV p.2 q.2.2
theorem KT.val {H:Hp} {kvs:List (List Key×V)} {xs:List (List Key×Addr×Value)} (r:KT H kvs xs) (k:List Key):V2 (Qa kvs k) ((atKey xs k).map (·.2)):=by
 induction r with
 |nil=>exact True.intro
 |@cons p q ps qs h t ih=>
  obtain⟨h1,_,h2⟩:=h
  by_cases e:p.1=k
  .have e':q.1=k:=h1.symm.trans e
   have b:atKey (q::qs) k=some q.2:=by simp[atKey,List.find?_cons,e']
   rw[Wc e,b];exact h2
  .have e':¬ q.1=k:=fun z=>e (h1.trans z)
   have b:atKey (q::qs) k=atKey qs k:=by simp[atKey,List.find?_cons,e']
   rw[Wd e,b];exact ih
theorem KT.repl {H:Hp} {kvs:List (List Key×V)} {xs:List (List Key×Addr×Value)} (r:KT H kvs xs) (k:List Key) {y:V} {u:Value} (ry:RelV y u) :
  KT H (kvs.map fun kv=>if kv.1=k then (kv.1,y) else kv) (xs.map (putAt k u)):=by
 induction r with
 |nil=>exact .nil
 |@cons p q ps qs h t ih=>
  rw[List.map_cons,List.map_cons]
  refine .cons ?_ ih
  obtain⟨h1,h2,h3⟩:=h
  unfold putAt
  by_cases e:p.1=k
  .rw[if_pos e,if_pos (h1.symm.trans e)];exact⟨h1,h2,ry⟩
  .rw[if_neg e,if_neg (fun z=>e (h1.trans z))];exact⟨h1,h2,h3⟩
theorem KT.put {H:Hp} {kvs:List (List Key×V)} {xs:List (List Key×Addr×Value)} (r:KT H kvs xs) (k:List Key) {b:Addr} {y:V} {u:Value} (hb:H b=some (.tup (k.map kV))) (ry:RelV y u) :
  KT H (putK kvs k y) (storedH xs k b u):=by
 have e:(kvs.any fun kv=>decide (kv.1=k))=(atKey xs k).isSome:=by
  rw[Acw,(r.val k).isSome_eq,Option.isSome_map]
 unfold putK storedH
 rw[e]
 by_cases q:(atKey xs k).isSome=true
 .rw[if_pos q,if_pos q];exact r.repl k ry
 .rw[if_neg q,if_neg q];exact Paired.snoc r ⟨rfl,hb,ry⟩
theorem KT.keeps {H H':Hp} {kvs:List (List Key×V)} {xs:List (List Key×Addr×Value)} (r:KT H kvs xs) (ht:∀b ys,H b=some (.tup ys)->H' b=some (.tup ys)):KT H' kvs xs:=
 Paired.mapP r fun _ _ z=>⟨z.1,ht _ _ z.2.1,z.2.2⟩
section
variable {P:Program} {w:World} {H:Hp} {h:Heap} {a:Addr}
theorem La {u:HO} (ok:HOk P w H h) (e:Rd H a u):Dc P w H h a u:=e.ok ok
theorem Y8 {kvs:List (Key×V)} (ok:HOk P w H h) (e:Rd H a (.dK kvs)):kvs.length≤sizeLine∧(a==sysModules)=false∧∃vs,KV kvs vs∧h.DictOf (Ek P w) a vs:=
 show Dc P w H h a (.dK kvs) from La ok e
theorem At2 {kvs:List (Key×V)} (ok:HOk P w H h) (e:H a=some (.dK kvs)):kvs.length≤sizeLine∧(a==sysModules)=false∧∃vs,KV kvs vs∧h.DictOf (Ek P w) a vs:=Y8 ok (.inl e)
theorem We {ks:List Key} (ok:HOk P w H h) (e:H a=some (.tup (ks.map kV))):(tupleKind (Ek P w)).is h ks a:=by
 obtain⟨_,its,r,o,h1,h2,n,h3⟩:=(show Dc P w H h a (.tup (ks.map kV)) from ok a _ e)
 exact⟨o,its.toArray,n,h1,h2,h3,by simpa using Y7 r⟩
theorem Acx {kvs:List (List Key×V)} (ok:HOk P w H h) (e:Rd H a (.dT kvs)):kvs.length≤sizeLine∧(a==sysModules)=false∧
  ∃xs,KT H kvs xs∧h.DictOfH (tupleKind (Ek P w)) a xs:=by
 obtain⟨z,y,xs,r,o,es,ep,h1,h2,h3,h4,h5⟩:=(show Dc P w H h a (.dT kvs) from La ok e)
 refine⟨z,y,xs,r,o,es,ep,h1,h2,h3,h4,fun x hx=>?_,h5⟩
 have all:∀{l:List (List Key×V)} {m:List (List Key×Addr×Value)},KT H l m->∀x∈m,(tupleKind (Ek P w)).is h x.1 x.2.1:=by
  intro l m q
  induction q with
  |nil=>intro x hx;exact nomatch hx
  |@cons p q ps qs hq t ih=>
   intro x hx
   rcases List.mem_cons.mp hx with e|hx
   .subst e
    exact We ok (by rw[←hq.1];exact hq.2.1)
   .exact ih x hx
 exact all r x hx
theorem Aze {kvs:List (List Key×V)} (ok:HOk P w H h) (e:H a=some (.dT kvs)):kvs.length≤sizeLine∧(a==sysModules)=false∧
  ∃xs,KT H kvs xs∧h.DictOfH (tupleKind (Ek P w)) a xs:=Acx ok (.inl e)
end
def R9 (H:Hp) (a:Addr) (y:V) (r:Option V):Prop:=
 (∃kvs k,Rd H a (.dK kvs)∧y=kV k∧r=Qa kvs k)∨∃kvs k b,Rd H a (.dT kvs)∧y=.ref b∧H b=some (.tup (k.map kV))∧r=Qa kvs k
def Ai9 (H:Hp) (a:Addr) (y v:V) (H':Hp):Prop:=
 (∃kvs k,H a=some (.dK kvs)∧y=kV k∧kvs.length < sizeLine∧H'=upd H a (.dK (putK kvs k v)))∨
 ∃kvs k b,H a=some (.dT kvs)∧y=.ref b∧H b=some (.tup (k.map kV))∧kvs.length < sizeLine∧H'=upd H a (.dT (putK kvs k v))
theorem R9.k {H:Hp} {a:Addr} {kvs:List (Key×V)} {k:Key} (e:H a=some (.dK kvs)):R9 H a (kV k) (Qa kvs k):=.inl ⟨kvs,k,.inl e,rfl,rfl⟩
theorem Ai9.k {H:Hp} {a:Addr} {kvs:List (Key×V)} {k:Key} {v:V} (e:H a=some (.dK kvs)) (hl:kvs.length < sizeLine):Ai9 H a (kV k) v (upd H a (.dK (putK kvs k v))):=.inl ⟨kvs,k,e,rfl,hl,rfl⟩
section
variable {X:Cx} {pins:List (Addr×Obj)} {σ:St} {H:Hp} {s:Shared} {a:Addr} {y v:V} {u r:Value} {o:Option V} {A:Around} {E:Value->Shared->Prop}
theorem Inv.big (I:Inv X pins σ H s):sysModules < s.heap.objs.size:=by
 have h:mainGlobals < s.heap.objs.size:=(I.mod.glob.keeps I.bk).lt
 exact Nat.lt_trans (by decide) h
theorem Aja {Q:Value->Shared->Prop} (hu:A.units+1 < cLine) (I:Inv X pins σ H s) (g:R9 H a y (some v)) (ry:RelV y u) (h:∀w' s',Inv X pins σ H s'->RelV v w'->Q w' s') :
  wpAny (model X.prog X.w) A (getItem (.ref a) u) Q E s:=by
 rcases g with ⟨kvs,k,e,ey,l⟩|⟨kvs,k,b,e,ey,eb,l⟩
 .subst ey
  obtain⟨z,hd,vs,rel,dd⟩:=Y8 I.hok e
  obtain⟨w',hw,rw'⟩:=V2.some_of (v:=v) (o:=valueAt vs k) (by rw[l];exact rel.val k)
  exact wpAny_getItem_of (Y6 ry) dd.mapOf hw (h w' _ (I.tok _) rw')
 .subst ey
  cases (show u=Value.ref b from ry)
  obtain⟨z,hd,xs,rel,dd⟩:=Acx I.hok e
  obtain⟨w',hw,rw'⟩:=V2.some_of (v:=v) (o:=(atKey xs k).map (·.2)) (by rw[l];exact rel.val k)
  obtain⟨p,hp,hp2⟩:=Option.map_eq_some_iff.mp hw
  refine wpAny_getItem_heap (tupleKind_room_in1 hu) (We I.hok eb) dd hp ?_
  rw[hp2]
  exact h w' _ (I.tok _) rw'
theorem Bbr {Q:Value->Shared->Prop} (hu:A.units+1 < cLine) (I:Inv X pins σ H s) (g:R9 H a y o) (ry:RelV y u) (h:∀s',Inv X pins σ H s'->Q (.bool o.isSome) s') :
  wpAny (model X.prog X.w) A (compareOp .In u (.ref a)) Q E s:=by
 rcases g with ⟨kvs,k,e,ey,l⟩|⟨kvs,k,b,e,ey,eb,l⟩
 .subst ey
  obtain⟨z,hd,vs,rel,dd⟩:=Y8 I.hok e
  refine wpAny_in_of (Y6 ry) hd dd.mapOf ?_
  rw[←(rel.val k).isSome_eq,←l]
  exact h _ (I.tok _)
 .subst ey
  cases (show u=Value.ref b from ry)
  obtain⟨z,hd,xs,rel,dd⟩:=Acx I.hok e
  refine wpAny_in_heap (tupleKind_room_in1 hu) (We I.hok eb) hd dd ?_
  have q:=(rel.val k).isSome_eq
  rw[Option.isSome_map] at q
  rw[←q,←l]
  exact h _ (I.tok _)
theorem Apv {Q:Value->Shared->Prop} (hu:A.units+1 < cLine) (I:Inv X pins σ H s) (g:R9 H a y o) (ry:RelV y u) (h:∀s',Inv X pins σ H s'->Q (.bool (!o.isSome)) s') :
  wpAny (model X.prog X.w) A (compareOp .NotIn u (.ref a)) Q E s:=by
 rcases g with ⟨kvs,k,e,ey,l⟩|⟨kvs,k,b,e,ey,eb,l⟩
 .subst ey
  obtain⟨z,hd,vs,rel,dd⟩:=Y8 I.hok e
  refine wpAny_notIn_of (Y6 ry) hd dd.mapOf ?_
  rw[←(rel.val k).isSome_eq,←l]
  exact h _ (I.tok _)
 .subst ey
  cases (show u=Value.ref b from ry)
  obtain⟨z,hd,xs,rel,dd⟩:=Acx I.hok e
  refine wpAny_notIn_heap (tupleKind_room_in1 hu) (We I.hok eb) hd dd ?_
  have q:=(rel.val k).isSome_eq
  rw[Option.isSome_map] at q
  rw[←q,←l]
  exact h _ (I.tok _)
theorem Aas {h':Heap} {t':Nat} {ob:HO} (I:Inv X pins σ H s) (mu:Mut (H a)) (hs:Heap.SameBut a s.heap h') (he:∃q,h'.get? a=some q) (new:Dc X.prog X.w (upd H a ob) h' a ob) :
  Inv X pins σ (upd H a ob) { s with heap:=h',toks:=t' }:=
 I.write (x:=a) (e:=a) mu (.inl rfl) (fun b q hb z=>(hs.2 b hb).trans z) he new
theorem Alp {P:Program} {w:World} {H':Hp} {h':Heap} {kvs:List (Key×V)} {vs:List (Key×Value)} (z:kvs.length≤sizeLine) (hd:(a==sysModules)=false) (rel:KV kvs vs) (dd:h'.DictOf (Ek P w) a vs) :
  Dc P w H' h' a (.dK kvs):=⟨z,hd,vs,rel,dd⟩
theorem Ajb {H':Hp} {Q:Unit->Shared->Prop} (hu:A.units+1 < cLine) (I:Inv X pins σ H s) (g:Ai9 H a y v H') (ry:RelV y u) (rv:RelV v r) (h:∀s',Inv X pins σ H' s'->Q () s') :
  wpAny (model X.prog X.w) A (setItem (.ref a) u r) Q E s:=by
 rcases g with ⟨kvs,k,e,ey,l,eH⟩|⟨kvs,k,b,e,ey,eb,l,eH⟩
 .subst ey eH
  obtain⟨z,hd,vs,rel,dd⟩:=At2 I.hok e
  have hz:vs.length≤sizeLine:=by rw[←rel.length];exact z
  have hl:(putK kvs k v).length≤sizeLine:=by have:=Ni kvs k v;omega
  refine wpAny_setItem_pairs (hsz:=hz) (Y6 ry) dd fun h' dd' hs=>h _ ?_
  have he:∃q,h'.get? a=some q:=let ⟨q,_,_,hq,_⟩:=dd';⟨q,hq⟩
  exact Aas I (by rw[e];exact True.intro) hs he (Alp hl hd (rel.put k rv) dd')
 .subst ey eH
  cases (show u=Value.ref b from ry)
  obtain⟨z,hd,xs,rel,dd⟩:=Aze I.hok e
  have hz:xs.length≤sizeLine:=by rw[←Paired.length rel];exact z
  have hl:(putK kvs k v).length≤sizeLine:=by have:=Ni kvs k v;omega
  refine wpAny_setItem_heap (hsz:=hz) (tupleKind_room_in1 hu) (We I.hok eb) dd fun h' dd' hs=>h _ ?_
  obtain⟨q,es,ep,hq,h2,h3,h4,_,h5⟩:=dd'
  refine Aas I (by rw[e];exact True.intro) hs ⟨q,hq⟩ ⟨hl,hd,_,(rel.put k eb rv).keeps fun c ys ec=>?_,q,es,ep,hq,h2,h3,h4,h5⟩
  rw[Bb (Ayc ec e (fun z=>nomatch z))]
  exact ec
end
section
variable {X:Cx} {pins:List (Addr×Obj)} {σ:St} {H:Hp} {s:Shared} {a:Addr} {kvs:List (Key×V)} {k:Key} {u:Value} {A:Around} {E:Value->Shared->Prop}
theorem Azf {Q:Value->Shared->Prop} (I:Inv X pins σ H s) (e:Rd H a (.dK kvs)) (h:∀t s',Inv X pins σ H s'->Q (.int kvs.length t) s'):wpAny (model X.prog X.w) A (call (.builtin "len") [.ref a]) Q E s:=by
 obtain⟨z,hd,vs,rel,dd⟩:=Y8 I.hok e
 refine call_len_dict hd dd (by rw[←rel.length];rw[sizeLine_eq] at z;omega) ?_
 rw[←rel.length]
 exact h _ _ (I.tok _)
end
theorem Acy {X:Cx} {pins:List (Addr×Obj)} {σ:St} {H:Hp} {s:Shared} {a:Addr} {y:V} {o:Option V} (I:Inv X pins σ H s) (g:R9 H a y o):s.TypeIs (.ref a) "dict":=by
 rcases g with ⟨kvs,k,e,_,_⟩|⟨kvs,k,b,e,_,_,_⟩
 .obtain⟨_,_,vs,_,dd⟩:=Y8 I.hok e
  exact dd.typeIs
 .obtain⟨_,_,xs,_,dd⟩:=Acx I.hok e
  exact dd.typeIs
def At3 (td ty tv:TE):TS:=fun D σ H=>tv σ H fun v H1=>td σ H1 fun x H2=>ty σ H2 fun y H3=>∃a H4,x=.ref a∧Ai9 H3 a y v H4∧D.nx σ H4
section
variable {X:Cx} {o i e value:Expr} {pos pos' tpos:Pos} {td ty tv:TE}
theorem Apw (hu:X.A.units+1 < cLine) (ho:PE X o td) (hi:PE X i ty) (hv:PE X value tv) (hs:swapsWith value (some (.Subscript o i pos')) pos.line X.env=pure false) :
  PS X (.Assign [.Subscript o i pos'] value pos) (At3 td ty tv):=by
 intro pins s σ H D I h
 refine wpAny_Assign_Subscript (thn (hv pins s σ H _ I h) fun r s1 ⟨v,H1,I1,rv,q1⟩=>thn (ho pins s1 σ H1 _ I1 q1) fun u s2 ⟨x,H2,I2,rx,q2⟩=>thn (hi pins s2 σ H2 _ I2 q2) fun iv s3 ⟨y,H3,I3,ry,a,H4,ex,g,q3⟩=>?_) hs
 subst ex
 obtain rfl:u=Value.ref a:=rx
 exact Ajb hu I3 g ry rv fun s4 I4=>⟨σ,H4,I4,q3⟩
end
theorem Acz {P:Program} {w:World} {H:Hp} (h:Heap) (hb:sysModules < h.objs.size):Dc P w H (h.push { cls:=.type "dict",data:=.dict #[] }) h.objs.size (.dK []):=
 ⟨Nat.zero_le _,beq_eq_false_iff_ne.mpr (Ne.symm (Nat.ne_of_lt hb)),[],.nil,Heap.DictOf.new h⟩
def Avq:TE:=fun _ H Q=>∀p,H p=none->Q (.ref p) (upd H p (.dK []))
section
variable {X:Cx} {pos:Pos}
theorem Alq:PE X (.Dict [] [] pos) Avq:=fun pins s σ H Q I h=>
 wpAny_Dict_empty ⟨.ref s.heap.objs.size,_,I.laid (a:=s.heap.objs.size) (o:=.dK []) (t':=s.toks) (fun _ _ q=>Heap.get?_push_of_some _ q) (Nat.le_refl _) (Acz s.heap I.big),rfl,h _ (I.hok.fresh (Nat.le_refl _))⟩
end
def Aat:List (TE×TE)->St->Hp->(List (V×V)->Hp->Prop)->Prop
 |[],_,H,Q=>Q [] H
 |(tk,tv)::r,σ,H,Q=>tk σ H fun x H1=>tv σ H1 fun y H2=>Aat r σ H2 fun ps H3=>Q ((x,y)::ps) H3
abbrev VV:List (V×V)->List (Value×Value)->Prop:=Paired fun p q=>RelV p.1 q.1∧RelV p.2 q.2
def PPs (X:Cx) (pos:Pos) (keys:List (Option Expr)) (values:List Expr) (trs:List (TE×TE)):Prop:=
 ∀(pins:List (Addr×Obj)) (s:Shared) (σ:St) (H:Hp) (Q:List (V×V)->Hp->Prop),Inv X pins σ H s->Aat trs σ H Q->
  wpAny (model X.prog X.w) X.A (evalPairs (pairTrees keys values X.env pos)) (fun vs s'=>∃ps H',Inv X pins σ H' s'∧VV ps vs∧Q ps H') X.xe s
theorem Apx {X:Cx} {pos:Pos}:PPs X pos [] [] []:=fun pins s σ H Q I h=>pairTrees_nil_walk ⟨[],H,I,.nil,h⟩
theorem Alr {X:Cx} {pos:Pos} {k v:Expr} {ks:List (Option Expr)} {vs:List Expr} {tk tv:TE} {trs:List (TE×TE)} (hk:PE X k tk) (hv:PE X v tv) (hr:PPs X pos ks vs trs) :
  PPs X pos (some k::ks) (v::vs) ((tk,tv)::trs):=fun pins s σ H Q I h=>
 pairTrees_cons_walk (thn (hk pins s σ H _ I h) fun u s1 ⟨x,H1,I1,rx,q1⟩=>thn (hv pins s1 σ H1 _ I1 q1) fun w2 s2 ⟨y,H2,I2,ry,q2⟩=>
  thn (hr pins s2 σ H2 _ I2 q2) fun ws s3 ⟨ps,H3,I3,rel,q3⟩=>⟨(x,y)::ps,H3,I3,.cons ⟨rx,ry⟩ rel,q3⟩)
def J0 (kvs more:List (Key×V)):List (Key×V):=more.foldl (fun acc kv=>putK acc kv.1 kv.2) kvs
theorem KV.merge:∀{more:List (Key×V)} {rs:List (Key×Value)} {kvs:List (Key×V)} {vs:List (Key×Value)},KV more rs->KV kvs vs->KV (J0 kvs more) (merged vs rs):=by
 intro more rs kvs vs r
 unfold KV at r
 induction r generalizing kvs vs with
 |nil=>intro q;exact q
 |@cons p q ps qs h t ih=>
  intro r0
  have e:KV (putK kvs p.1 p.2) (stored vs q.1 q.2):=by
   have:=r0.put p.1 h.2
   rw[←h.1];exact this
  exact ih e
theorem O7:∀(more kvs:List (Key×V)),(J0 kvs more).length≤kvs.length+more.length
 |[],kvs=>by show kvs.length≤kvs.length+0;omega
 |p::r,kvs=>by
  have h1:=O7 r (putK kvs p.1 p.2)
  have h2:=Ni kvs p.1 p.2
  show (J0 (putK kvs p.1 p.2) r).length≤_
  rw[List.length_cons];omega
theorem Wf {P:Program} {w:World}:∀{kvs:List (Key×V)} {ws:List (Value×Value)},VV (kvs.map fun kv=>(kV kv.1,kv.2)) ws->∃rs,Carries (Ek P w) ws rs∧KV kvs rs
 |[],_,r=>by rw[List.map_nil] at r;cases r;exact⟨[],True.intro,.nil⟩
 |p::kvs,_,r=>by
  rw[List.map_cons] at r
  cases r with
  |@cons a b as bs h t=>
   obtain⟨rs,c,q⟩:=Wf (P:=P) (w:=w) t
   obtain⟨b1,b2⟩:=b
   exact⟨(p.1,b2)::rs,⟨Y6 h.1,rfl,c⟩,.cons ⟨rfl,h.2⟩ q⟩
def Azg (trs:List (TE×TE)):TE:=fun σ H Q=>∀p,H p=none->Aat trs σ (upd H p (.dK [])) fun ps H2=>H2 p=some (.dK [])∧∃kvs:List (Key×V),ps=kvs.map (fun kv=>(kV kv.1,kv.2))∧kvs.length≤15∧Q (.ref p) (upd H2 p (.dK (J0 [] kvs)))
theorem Apy {X:Cx} {pos:Pos} {keys:List (Option Expr)} {values:List Expr} {trs:List (TE×TE)} (h:PPs X pos keys values trs) (hall:keys.all (·.isSome)=true) (hl:keys.length=values.length) (h0:keys≠[])
  (h15:keys.length≤15):PE X (.Dict keys values pos) (Azg trs):=by
 intro pins s σ H Q I q
 have hn:=I.hok.fresh (Nat.le_refl s.heap.objs.size)
 have I1:=I.laid (a:=s.heap.objs.size) (o:=.dK []) (h':=s.heap.push { cls:=.type "dict",data:=.dict #[] }) (t':=s.toks) (fun _ _ q=>Heap.get?_push_of_some _ q) (Nat.le_refl _) (Acz s.heap I.big)
 refine wpAny_Dict_walk (knd:=Ek X.prog X.w) hall hl h0 h15 (thn (h pins _ σ _ _ I1 (q _ hn)) fun ws s2 ⟨ps,H2,I2,rel,e,kvs,ep,lk,q2⟩=>?_)
 subst ep
 obtain⟨rs,c,rk⟩:=Wf (P:=X.prog) (w:=X.w) rel
 obtain⟨z,hd,vs0,r0,dd⟩:=At2 I2.hok e
 cases r0
 refine⟨rs,c,dd,fun h' dd' hs=>⟨.ref s.heap.objs.size,_,?_,rfl,q2⟩⟩
 have hz:(J0 [] kvs).length≤sizeLine:=by
  have h1:=O7 kvs []
  rw[List.length_nil] at h1
  rw[sizeLine_eq];omega
 have he:∃q,h'.get? s.heap.objs.size=some q:=let ⟨q,_,_,hq,_⟩:=dd';⟨q,hq⟩
 exact Aas I2 (by rw[e];exact True.intro) hs he (Alp hz hd (rk.merge .nil) dd')
structure M1 (X:Cx) (o:Expr) (m:Str) (apos:Pos) (e:Expr) (cpos:Pos):Prop where
 base:attributeBase o m X.env (eval o X.env)=eval o X.env
 few:((backTo cpos (starEach [e] X.env)).all (fun x=>!x.1)&&(backToKw cpos (keywordEach [] X.env)).all (fun x=>x.1.isSome)
  &&decide (([e]:List Expr).length+([]:List Keyword).length+(if ([]:List Keyword).isEmpty then 0 else 1) < 30))=true
 line:(apos.endLine==cpos.line)=true
 trees:backTo cpos (starEach [e] X.env)=[(false,eval e X.env)]
structure M2 (X:Cx) (o:Expr) (m:Str) (apos:Pos) (e f:Expr) (cpos:Pos):Prop where
 base:attributeBase o m X.env (eval o X.env)=eval o X.env
 few:((backTo cpos (starEach [e,f] X.env)).all (fun x=>!x.1)&&(backToKw cpos (keywordEach [] X.env)).all (fun x=>x.1.isSome)
  &&decide (([e,f]:List Expr).length+([]:List Keyword).length+(if ([]:List Keyword).isEmpty then 0 else 1) < 30))=true
 line:(apos.endLine==cpos.line)=true
 trees:backTo cpos (starEach [e,f] X.env)=[(false,eval e X.env),(false,eval f X.env)]
end L2
namespace Att
open PySem PySem.W PySem.Calls PyProof.Rows
theorem Vc {P:Params} {h:Heap}:∀(ns:List Int) (vs:List Value),WellAll P h vs (ns.map WData.int)->IntsAre vs ns:=by
 intro ns
 induction ns with
 |nil=>
  intro vs w
  rw[List.map_nil] at w
  cases w
  exact .nil
 |cons n ns ih=>
  intro vs w
  rw[List.map_cons] at w
  cases w with
  |cons a b=>
   cases a
   exact .cons _ _ (ih _ b)
theorem Ajc {l:OpenLaw} {n:Nat} (hn:l.most=some n) {P:Params} {h:Heap} {args:List WData} {vals:List Value}
  (hpre:l.row.toRowW.claim.pre args=true) (hwl:WellAll P h vals args) :
  ∃a vs ns,vals=[Value.ref a]∧args=[WData.list (ns.map WData.int)]∧h.get? a=some { cls:=.type "list",data:=.seq vs.toArray }∧IntsAre vs ns∧ns.length≤n:=by
 have hsh:WShape.hasAll [] args [.list .int]=true:=(pre_splitW hpre).1
 have hc:l.pre.holds [] { args:=args }=true:=(pre_splitW hpre).2
 obtain⟨d,r,rfl,h1,h2⟩:=hasAllW_cons hsh
 obtain rfl:=hasAllW_nil h2
 obtain⟨xs,rfl,h3⟩:=hasW_list h1
 obtain⟨ns,rfl⟩:=items_int h3
 have hlen:ns.length≤n:=by
  unfold OpenLaw.pre at hc
  have h4:(WTm.not (.lt (.lit (.int (n:Int))) (.len (.arg 0)))).holds [] { args:=[.list (ns.map .int)] }=true:=by
   have h4:=(holds_andW hc).1
   rw[hn] at h4
   exact h4
  have h5:=condW_of h4 (w_not (w_lt w_lit (w_len_list (w_arg rfl))))
  rw[List.length_map] at h5
  refine Nat.le_of_not_lt fun q=>?_
  have q':(n:Int) < ((ns.length:Nat):Int):=by omega
  first
   |(rw[decide_eq_true q'] at h5;exact absurd h5 (by decide))
   |(simp at h5;omega)
 cases hwl with
 |cons w1 w2=>
  cases w2
  cases w1 with
  |list ho hall=>exact⟨_,_,ns,rfl,rfl,ho,Vc ns _ hall,hlen⟩
theorem Ajd (l:OpenLaw) (args:List WData):l.row.toRowW.claim.post args (.bool true) args=true:=
 postW_of (r:=l.row.toRowW) (X:=(true==true))
  (show WShape.has [] (.bool true) .bool=true by first|rfl|decide|simp[WShape.has,WShape.arms,WShape.armsAll])
  (show (WTm.eq .res (.lit (.bool true))).value [] { args:=args,res:=some (.bool true),after:=args }=some (.bool (true==true)) from w_eq_bool (w_res rfl) w_lit) rfl
theorem attach_call {l:OpenLaw} {n:Nat} {q:Program} {loose:List Str} {XP:(Str->Option Value)->Heap->Prop} {YP:World->Heap->Prop} {d:DefRec}
  (hn:l.most=some n) (hdf:d.params.defaults=[])
  (call:∀(w:World) (s₀ s₁:Shared) (mg mb:Str->Option Value) (fa:Addr) (o:Obj) (pm cd doc:Value) (a:Addr) (vs:List Value) (ns:List Int),
   Ground q loose [] XP w s₀ mg mb s₁.heap->YP w s₁.heap->
   s₁.heap.get? fa=some o->o.data=.func (docDef d.name d.params d.body d.scope pm cd doc)->s₁.heap.CodeRec cd d.name->mg d.name=some (.ref fa)->
   s₁.heap.get? a=some { cls:=.type "list",data:=.seq vs.toArray }->IntsAre vs ns->ns.length≤n->s₁.gens=#[]->
   codeAny (model l.prog w) callerA (.call (.ref fa) ⟨[.ref a],[]⟩) (fun r s'=>r=.ok (.ret (.bool true))∧OldK s₁.heap s'.heap∧s'.os=s₁.os∧AllBare s'.gens) s₁) :
  WalkO q loose XP YP l.row.toRowW d [] (fun f vs=>PySem.call f vs):=by
 intro w s₀ s₁ mg mb G Y fa o pm cd doc dV kV ho hd hcd hD hmg hg args vals as hpre hlay hrd hwl hlo
 obtain rfl:dV=.none:=Dflts.none hD hdf
 obtain rfl:kV=.none:=Dflts.noKw hD
 obtain⟨a,vs,ns,rfl,rfl,hobj,hints,hlen⟩:=Ajc hn hpre hwl
 refine enter_call (codeAny_mono (call w s₀ s₁ mg mb fa o pm cd doc a vs ns G Y ho (fd_plain hd) hcd hmg hobj hints hlen hg) fun r s' hq=>?_)
 obtain⟨rfl,h2,h3,h4⟩:=hq
 exact⟨.inl ⟨.bool true,.bool true,[],rfl,fun _=>rfl,.bool true,Ajd l _,fun _=>⟨List.Pairwise.nil,fun _ hm=>(nomatch hm)⟩⟩,h2,h3,h4⟩
section
variable {prog:Program} {w:World} {A:Around} {E:Value->Shared->Prop} {s:Shared} {K:Frag}
def ledger (h:Heap) (L d:Addr):List (Addr×Obj):=(List.range h.objs.size).filterMap fun a=>if a=L∨a=d then none else (h.get? a).map fun o=>(a,o)
end
end Att
namespace L2
open PySem PySem.Spec PyProof.Rows
theorem Y9:∀{vs:List Value} {ns:List Int},IntsAre vs ns->Vals (ns.map V.int) vs
 |_,_,.nil=>.nil
 |_,_,.cons n t h=>.cons ⟨t,rfl⟩ (Y9 h)
def Only (H:Hp):Prop:=∀b,H b=none∨∃o xs,H b=some (.frz o (.lst xs))
theorem Als {P:Program} {w:World} {K:PySem.W.Frag} {mg mb:Str->Option Value} {CX:CXT} {k:Nat} {fa a:Addr} {fd:FuncData} {x:Str} {sp:Sp} {s₁:Shared} {vs:List Value} {ns:List Int}
  (KX:K.In s₁.heap) (hns:s₁.heap.Ns mainGlobals mg) (hb:s₁.heap.Ns builtinsNs mb) (hbb:∀x:Str,x≠"__name__"->mb x=bootBuiltins x) (hlim:s₁.heap.NoLimit) (hg:s₁.gens=#[])
  (ha:s₁.heap.get? a=some { cls:=.type "list",data:=.seq vs.toArray }) (hi:IntsAre vs ns) (hl:ns.length≤sizeLine) (hr:Ht k callerA)
  (F:∀base:Heap,K.In base->base.Ns mainGlobals mg->Ib P w K mg base CX k fa fd [x] sp) (hbind:∀(s:Shared) (u:Value),BindsTo s fd ⟨[u],[]⟩ [(x,u)])
  (hsp:∀H:Hp,Only H->SqL K H a (ns.map V.int)->sp [.ref a] H (fun v _=>v=.bl true) fun _ _ _=>False)
  (hCX:∀H e s',CX [] H s₁ (fun _ _ _=>False) e s'->False) :
  codeAny (model P w) callerA (.call (.ref fa) ⟨[.ref a],[]⟩) (fun r s'=>r=.ok (.ret (.bool true))∧OldK s₁.heap s'.heap∧s'.os=s₁.os∧AllBare s'.gens) s₁:=by
 have rv:=Y9 hi
 have lenV:=hi.length
 have core:∀H:Hp,Only H->SqL K H a (ns.map V.int)->HOk P w H s₁.heap->(∀b,H b≠none->b=a)->(H a≠none->K.lookup a=none)->
   codeAny (model P w) callerA (.call (.ref fa) ⟨[.ref a],[]⟩) (fun r s'=>r=.ok (.ret (.bool true))∧OldK s₁.heap s'.heap∧s'.os=s₁.os∧AllBare s'.gens) s₁:=by
  intro H hO hS hok hA hK
  have base_of:∀{b:Addr} {o:Obj},s₁.heap.get? b=some o->H b=none->(Aal s₁.heap H).get? b=some o:=fun e n=>Ak4 e n
  have noA:∀{b:Addr} {o:Obj} {es:Array DictEntry} {ep:Nat},s₁.heap.get? b=some o->o.data=.dict es ep->H b=none:=fun {b o es ep} e d=>by
   cases q:H b with
   |none=>rfl
   |some u=>
    have e':b=a:=hA b (by rw[q];simp)
    subst e'
    rw[ha] at e;cases e
    have d':Data.seq vs.toArray _=Data.dict es ep:=d
    cases d'
  have nsK:∀{b:Addr} {m:Str->Option Value},s₁.heap.Ns b m->(Aal s₁.heap H).Ns b m:=fun {b m} ⟨o,es,ep,e,d,r⟩=>⟨o,es,ep,base_of e (noA e d),d,r⟩
  have hKb:K.In (Aal s₁.heap H):=fun b o e=>base_of (KX b o e) (by
   cases q:H b with
   |none=>rfl
   |some u=>
    have e':b=a:=hA b (by rw[q];simp)
    subst e'
    rw[hK (by rw[q];simp)] at e;cases e)
  have hM:Mod K mg (Aal s₁.heap H):=⟨hKb,nsK hns,⟨mb,nsK hb,hbb⟩,let ⟨mc,h1,h2⟩:=hlim;⟨mc,nsK h1,h2⟩⟩
  have e0:Afi P w K mg (Aal s₁.heap H) callerA [] s₁ H:=⟨rfl,hM,fun b o e=>Ao4 e,Nat.le_of_eq (Aiv _ _),trivial,fun b hb=>absurd (show b∈([]:List Addr) from hb) (by simp),hok,.of_eq hg⟩
  refine codeAny_mono ((F _ hKb (nsK hns)).run callerA [] s₁ H ⟨[.ref a],[]⟩ [.ref a] [.ref a] _ _ hr e0 (hbind s₁ (.ref a)) (.cons rfl .nil) (hsp H hO hS)) fun r s' h=>?_
  cases r with
  |error e=>exact(hCX H e s' h).elim
  |ok fl=>
   cases fl with
   |next=>exact False.elim h
   |brk=>exact False.elim h
   |cont=>exact False.elim h
   |ret u=>
    obtain⟨v,H',os,bare,un,hok',r',q⟩:=h
    have q':v=.bl true:=q
    subst q'
    obtain rfl:u=Value.bool true:=r'
    refine⟨rfl,OldK.of_keep fun b o e=>?_,os,bare⟩
    cases q:H b with
    |none=>exact un.keep b o e q (by intro z;exact absurd (show b∈([]:List Addr) from z) (by simp)) (by simp)
    |some u=>
     rcases hO b with z|⟨ob,xs,z⟩
     .rw[q] at z;cases z
     .have z2:=un.frzs b ob _ z
      obtain⟨e1,_⟩:=hok b _ z
      obtain⟨e2,_⟩:=hok' b _ z2
      rw[e] at e1;cases e1
      exact e2
 cases hk:K.lookup a with
 |some o=>
  have e:=KX a o hk
  rw[ha] at e
  cases e
  refine core (fun _=>none) (fun _=>.inl rfl) (.inr ⟨_,vs.toArray,_,hk,rfl,rfl,rfl,by rw[List.size_toArray,lenV];exact hl,by simpa using rv⟩) (fun b u z=>by have z':(none:Option HO)=some u:=z;cases z') (fun b z=>absurd rfl z) fun z=>absurd rfl z
 |none=>
  refine core (fun b=>if b=a then some (.frz { cls:=.type "list",data:=.seq vs.toArray } (.lst (ns.map V.int))) else none) (fun b=>?_) (.inl (.inr ⟨{ cls:=.type "list",data:=.seq vs.toArray },if_pos rfl⟩)) (fun b u z=>?_) (fun b z=>?_) fun _=>hk
  .by_cases hb:b=a
   .exact .inr ⟨_,_,if_pos hb⟩
   .exact .inl (if_neg hb)
  .by_cases hb:b=a
   .have z':=(if_pos hb).symm.trans z
    cases z'
    subst hb
    exact⟨ha,by rw[List.length_map];exact hl,vs,_,rv,ha⟩
   .have z':=(if_neg hb).symm.trans z
    cases z'
  .by_cases hb:b=a
   .exact hb
   .exact absurd (if_neg hb) z
theorem Apz {l:PySem.W.OpenLaw} {n k:Nat} {q:Program} {loose:List Str} {XP:(Str->Option Value)->Heap->Prop} {YP:World->Heap->Prop} {d:DefRec} {K:Params->PySem.W.Frag} {CX:World->CXT} {sp:World->Sp} {x:Str}
  (hn:l.most=some n) (hn2:n≤sizeLine) (hdf:d.params.defaults=[]) (hr:Ht k callerA)
  (hY:∀(w:World) (h:Heap),YP w h->(K w.params).In h)
  (F:∀(w:World) (mg:Str->Option Value) (fa:Addr) (h:Heap),(K w.params).In h->h.Ns mainGlobals mg->mg d.name=some (.ref fa)->
   ∃fd:FuncData,(∀(s:Shared) (u:Value),BindsTo s fd ⟨[u],[]⟩ [(x,u)])∧
    ∀base:Heap,(K w.params).In base->base.Ns mainGlobals mg->Ib l.prog w (K w.params) mg base (CX w) k fa fd [x] (sp w))
  (hsp:∀(w:World) (H:Hp) (a:Addr) (ns:List Int),ns.length≤n->Only H->SqL (K w.params) H a (ns.map V.int)->sp w [.ref a] H (fun v _=>v=.bl true) fun _ _ _=>False)
  (hCX:∀(w:World) (H:Hp) (s:Shared) (e:Value) (s':Shared),CX w [] H s (fun _ _ _=>False) e s'->False) :
  PySem.W.WalkO q loose XP YP l.row.toRowW d [] (fun f vs=>PySem.call f vs):=by
 refine Att.attach_call hn hdf fun w s₀ s₁ mg mb fa o pm cd doc a vs ns G Y ho hd hcd hmg hobj hints hlen hg=>?_
 have KX:=hY w _ Y
 obtain⟨fd,hb,hF⟩:=F w mg fa _ KX G.T.g hmg
 exact Als KX G.T.g G.T.b G.T.builtins G.T.nolimit hg hobj hints (Nat.le_trans hlen hn2) hr hF hb (fun H hO hS=>hsp w H a ns hlen hO hS) fun H e s'=>hCX w H s₁ e s'
def inClass (s:Stmt) (j:Nat):Stmt:=match s with
 |.ClassDef _ _ _ body _ _ _ _ _ _ _=>body.getD j (.Pass ⟨0,0,0,0⟩)
 |_=>.Pass ⟨0,0,0,0⟩
def Bd (s:Stmt):Arguments:=match s with
 |.FunctionDef _ a _ _ _ _ _ _ _ _=>a
 |_=>{ posonlyargs:=[],args:=[],vararg:=none,kwonlyargs:=[],kw_defaults:=[],kwarg:=none,defaults:=[] }
def An (s:Stmt):List Stmt:=match s with
 |.FunctionDef _ _ b _ _ _ _ _ _ _=>b
 |_=>[]
def Ad (s:Stmt):Scope:=match s with
 |.FunctionDef _ _ _ _ _ _ sc _ _ _=>sc
 |_=>{ kind:=.function,names:=[],isGenerator:=false,isCoroutine:=false }
abbrev E0:XK:=fun _ _ _=>False
structure Fun (K:PySem.W.Frag) (x qual:Str) (st:Stmt) (f:Addr) (fd:FuncData):Prop where
 ex:∃(oc:Value) (od:Option Addr) (dV kV doc pm:Value) (an:Option Addr) (cdv ct:Value) (osl:Array (Option Value)),
  fd=PySem.W.fnOf x qual (Bd st) (An st) (Ad st) dV kV doc pm an cdv ct∧K.lookup f=some ⟨oc,od,.func fd,osl⟩∧PySem.W.codeIn K cdv qual=true
 kp:PySem.W.keepIn K (.ref f)=true
section
variable {P:Program} {w:World} {K:PySem.W.Frag} {mg:Str->Option Value} {base:Heap}
theorem Bk {x qual:Str} {st:Stmt} {ps:List Str} {an:Option Addr} {kV doc pm cdv ct:Value}
  (h:∀us:List Value,us.length=ps.length->bindArgs (PySem.W.fnOf x qual (Bd st) (An st) (Ad st) .none kV doc pm an cdv ct) ⟨us,[]⟩=pure (ps.zip us)):Binds K (PySem.W.fnOf x qual (Bd st) (An st) (Ad st) .none kV doc pm an cdv ct) ps []:=.all h
theorem By {x qual:Str} {st:Stmt} {f:Addr} {oc:Value} {od an:Option Addr} {osl:Array (Option Value)} {dV kV doc pm cdv ct:Value} (l:K.lookup f=some ⟨oc,od,.func (PySem.W.fnOf x qual (Bd st) (An st) (Ad st) dV kV doc pm an cdv ct),osl⟩)
  (c:PySem.W.codeIn K cdv qual=true) (k:PySem.W.keepIn K (.ref f)=true):Fun K x qual st f (PySem.W.fnOf x qual (Bd st) (An st) (Ad st) dV kV doc pm an cdv ct):=⟨⟨oc,od,dV,kV,doc,pm,an,cdv,ct,osl,rfl,l,c⟩,k⟩
end
section
variable {X:Cx}
theorem Aje:Gw X (.builtin "len") (fun xs H Q=>∃a kvs,xs=[V.ref a]∧H a=some (.dK kvs)∧Q (.int kvs.length) H):=by
 intro pins s σ H xs us Q I r h
 obtain⟨a,kvs,rfl,ha,q⟩:=h
 obtain⟨u,rfl,ru⟩:=vals1 r
 cases ru
 exact Azf I (.inl ha) fun t s' I'=>⟨.int kvs.length,H,I',⟨t,rfl⟩,q⟩
end
theorem Ac0 {A B:Prop} (h:B):if false=true then A else B:=by
 rw[if_neg Bool.false_ne_true]
 exact h
theorem Aau {A B:Prop} (h:A):if true=true then A else B:=by
 rw[if_pos rfl]
 exact h
theorem Dc.there {P:Program} {w:World} {H:Hp} {h:Heap} {a:Addr} {o:HO} (x:Dc P w H h a o):∃ob,h.get? a=some ob:=by
 cases o with
 |lst xs=>obtain⟨_,_,_,_,e⟩:=x;exact⟨_,e⟩
 |tup xs=>obtain⟨_,_,_,ob,e,_⟩:=x;exact⟨_,e⟩
 |dK kvs=>obtain⟨_,_,_,_,o,_,_,e,_⟩:=x;exact⟨_,e⟩
 |dT kvs=>obtain⟨_,_,_,_,o,_,_,e,_⟩:=x;exact⟨_,e⟩
 |set S n=>obtain⟨o,_,_,_,e,_⟩:=x;exact⟨_,e⟩
 |ins C dx fs=>obtain⟨_,_,_,e,_⟩:=x;exact⟨_,e⟩
 |own y=>exact x
 |xd fs=>obtain⟨_,⟨_,_,_,e,_⟩,_⟩:=x;exact⟨_,e⟩
 |rng lo hi=>obtain⟨_,_,_,e⟩:=x;exact⟨_,e⟩
 |frz ob u=>obtain⟨e,_⟩:=x;exact⟨_,e⟩
 |tbl ps=>exact⟨_,(show h.get? a=some _ from x)⟩
 |met f y=>exact⟨_,(show h.get? a=some _ from x)⟩
 |ext φ=>obtain⟨_,z,_⟩:=x;exact z
structure Fly (P:Program) (w:World) (outer:List Env) (H:Hp) (s:Shared) (H':Hp) (e:Addr) (cls:Value) (s':Shared):Prop where
 os:s'.os=s.os
 bare:AllBare s'.gens
 un:Un (frs outer) [] H H' s.heap s'.heap
 hok:HOk P w H' s'.heap
 new:s.heap.get? e=none
 fre:H' e=none
 fly:∃(B:Heap) (a0:Value),Heap.FlyingW B outer e cls a0 s'.heap∧(∀b o,s.heap.get? b=some o->H b=none->b∉frs outer->B.get? b=some o)∧
  (∀b o,s.heap.get? b=some o->b∉frs outer->∃o',B.get? b=some o')∧∀a u o,H' a=some u->s'.heap.get? a=some o->B.get? a=some o
def CXo (P:Program) (w:World):CXT:=fun outer H s E e s'=>∃(ea:Addr) (cls:Value) (H':Hp),e=Value.ref ea∧Fly P w outer H s H' ea cls s'∧E cls none H'
section
variable {X:Cx} {pins:List (Addr×Obj)} {σ:St} {H H':Hp} {s s':Shared}
theorem Inv.notStk (I:Inv X pins σ H s) {b:Addr} {o:Obj} (e:X.s₀.heap.get? b=some o) (hb:b∉X.fs):b∉frs X.stack:=fun z=>by
 rcases List.mem_cons.mp (I.stkSub b z) with q|q
 .exact absurd (Nat.lt_of_lt_of_le (Heap.lt_size e) (by rw[q];exact I.ok.above)) (Nat.lt_irrefl _)
 .exact hb q
theorem Inv.fsStk (I:Inv X pins σ H s) (hs:X.stack=X.env::X.outer):∀b∈X.fs,b∈frs X.stack:=fun b hb=>by
 rw[hs]
 unfold frs
 obtain⟨env,he,hf⟩:=List.mem_filterMap.mp hb
 exact List.mem_filterMap.mpr ⟨env,List.mem_cons.mpr (.inr he),hf⟩
theorem Inv.locStk (I:Inv X pins σ H s) (hs:X.stack=X.env::X.outer) (hf:X.env.frame=some X.env.locals):X.env.locals∈frs X.stack:=by
 rw[hs]
 exact List.mem_filterMap.mpr ⟨X.env,List.mem_cons.mpr (.inl rfl),hf⟩
theorem Inv.fly_made (I:Inv X pins σ H s) (hstk:X.stack=X.env::X.outer) (hfr:X.env.frame=some X.env.locals) (hex:X.ex=[]) {h':Heap} {e:Addr} {cls:Value} {args:List Value}
  (hx:Heap.MadeExcOf s.heap h' e cls args) {M:Model} {Q:Unit->Shared->Prop} {E:Value->Shared->Prop}
  (k:∀h'':Heap,Fly X.prog X.w X.outer X.H₀ X.s₀ H e cls { s with heap:=h'' }->Q () { s with heap:=h'' }):wpAny M X.A (leaving X.env (.ref e)) Q E { s with heap:=h' }:=by
 have hin:∀env∈X.stack,∀a,env.frame=some a->a∈frs X.stack:=fun env he a ha=>List.mem_filterMap.mpr ⟨env,he,ha⟩
 have st:(PySem.W.hideAll s.heap (frs X.stack)).StaysIn s.heap:=fun b o q=>PySem.W.of_hideAll _ q
 have ff:s.heap.FunFrames (PySem.W.hideAll s.heap (frs X.stack)) X.stack:=PySem.W.funFrames_hide I.stack hin
 have noex:∀b,b∉X.ex:=fun b z=>by rw[hex] at z;exact absurd z (by simp)
 have ff:s.heap.FunFrames (PySem.W.hideAll s.heap (frs X.stack)) (X.env::X.outer):=by rw[←hstk];exact ff
 refine wpAny_leaves_madeW (s:={ s with heap:=h' }) (base:=PySem.W.hideAll s.heap (frs X.stack)) (h:=s.heap) (by rw[I.ok.frames,hstk]) hfr st ff hx fun h'' t x1 x2 x3 x4=>k h'' ?_
 have x4:h'.UpToSlots h'':=x4
 have keepB:∀b o,s.heap.get? b=some o->b∉frs X.stack->h''.get? b=some o:=fun b o q n=>x1.1 b o (PySem.W.hideAll_get _ q n)
 have frm:∀b o,s.heap.get? b=some o->b∈frs X.stack->∃sl,h''.get? b=some { o with slots:=sl }:=fun b o q hb=>by
  obtain⟨_,o',q',nf⟩:=I.stack.mem hb
  rw[q] at q';cases q'
  exact x4 b o (hx.keeps b o q) nf
 refine⟨I.os,I.bare,⟨fun b o q n hb _=>?_,fun b o q n hb _=>?_,fun b o q n _=>I.base.free b o q n (noex b),fun b o q _=>?_,I.base.tups,I.base.frzs,I.base.tbls⟩,fun a u q=>?_,?_,?_,?_⟩
 .exact keepB b o (I.base.keep b o q n hb (noex b)) (I.notStk q hb)
 .obtain⟨sl,q1⟩:=I.base.slot b o q n hb (noex b)
  obtain⟨sl',q2⟩:=frm b _ q1 (I.fsStk hstk b hb)
  exact⟨sl',q2⟩
 .obtain⟨o',q1⟩:=I.base.there b o q (noex b)
  by_cases hb:b∈frs X.stack
  .obtain⟨sl,q2⟩:=frm b o' q1 hb
   exact⟨_,q2⟩
  .exact⟨o',keepB b o' q1 hb⟩
 .refine(I.hok a u q).stay (fun b v hb z=>keepB b v z fun m=>?_) (fun _ z=>z) fun _ _ z=>z
  have n:=I.stkFree b m
  rcases hb with rfl|hb
  .rw[n] at q;cases q
  .rw[n] at hb;cases hb
 .cases q:X.s₀.heap.get? e with
  |none=>rfl
  |some o=>
   obtain⟨o',q1⟩:=I.base.there e o q (noex e)
   rw[hx.new] at q1;cases q1
 .cases q:H e with
  |none=>rfl
  |some u=>
   obtain⟨o',q1⟩:=(I.hok e u q).there
   rw[hx.new] at q1;cases q1
 .refine⟨_,_,x1,fun b o q n hb=>PySem.W.hideAll_get _ (I.base.keep b o q n hb (noex b)) (I.notStk q hb),fun b o q hb=>?_,fun a u o q z=>?_⟩
  .obtain⟨o',q1⟩:=I.base.there b o q (noex b)
   exact⟨o',PySem.W.hideAll_get _ q1 (I.notStk q hb)⟩
  .obtain⟨ob,q1⟩:=(I.hok a u q).there
   have q2:=PySem.W.hideAll_get (frs X.stack) q1 fun m=>by
    have n:=I.stkFree a m
    rw[n] at q;cases q
   have q3:=x1.1 a ob q2
   have z:h''.get? a=some o:=z
   rw[q3] at z;cases z
   exact q2
theorem Inv.fly_on (I:Inv X pins σ H s) (hstk:X.stack=X.env::X.outer) (hfr:X.env.frame=some X.env.locals) (hex:X.ex=[]) {e:Addr} {cls:Value}
  (F:Fly X.prog X.w X.stack H s H' e cls s') {M:Model} {Q:Unit->Shared->Prop} {E:Value->Shared->Prop}
  (k:∀h'':Heap,Fly X.prog X.w X.outer X.H₀ X.s₀ H' e cls { s' with heap:=h'' }->Q () { s' with heap:=h'' }):wpAny M X.A (leaving X.env (.ref e)) Q E s':=by
 obtain⟨B,a0,fl,k1,kE,k2⟩:=F.fly
 have noex:∀b,b∉X.ex:=fun b z=>by rw[hex] at z;exact absurd z (by simp)
 have fl':=fl
 rw[hstk] at fl'
 refine wpAny_leaves_onW (by rw[I.ok.frames,hstk]) hfr fl' fun h'' x1 x2=>k h'' ?_
 have frm:∀b o,s'.heap.get? b=some o->b∈frs X.stack->∃sl,h''.get? b=some { o with slots:=sl }:=fun b o q hb=>by
  obtain⟨_,o',q',nf⟩:=fl.2.2.1.mem hb
  rw[q] at q';cases q'
  exact x2 b o q nf
 refine⟨F.os.trans I.os,F.bare,⟨fun b o q n hb _=>?_,fun b o q n hb _=>?_,fun b o q n _=>?_,fun b o q _=>?_,fun b xs q=>F.un.tups b xs (I.base.tups b xs q),fun b o u q=>F.un.frzs b o u (I.base.frzs b o u q),fun b ps q=>?_⟩,fun a u q=>?_,?_,F.fre,?_⟩
 .exact x1.1 b o (k1 b o (I.base.keep b o q n hb (noex b)) (I.base.free b o q n (noex b)) (I.notStk q hb))
 .obtain⟨sl,q1⟩:=I.base.slot b o q n hb (noex b)
  have hb':=I.fsStk hstk b hb
  obtain⟨sl',q2⟩:=F.un.slot b _ q1 (I.base.free b o q n (noex b)) hb' (by simp)
  obtain⟨sl'',q3⟩:=frm b _ q2 hb'
  exact⟨sl'',q3⟩
 .obtain⟨o',q1⟩:=I.base.there b o q (noex b)
  exact F.un.free b o' q1 (I.base.free b o q n (noex b)) (by simp)
 .obtain⟨o',q1⟩:=I.base.there b o q (noex b)
  by_cases hb:b∈frs X.stack
  .obtain⟨_,o'',q2,_⟩:=fl.2.2.1.mem hb
   obtain⟨sl,q3⟩:=frm b o'' q2 hb
   exact⟨_,q3⟩
  .obtain⟨o'',q2⟩:=kE b o' q1 hb
   exact⟨o'',x1.1 b o'' q2⟩
 .obtain⟨m1,e1⟩:=I.base.tbls b ps q
  obtain⟨m2,e2⟩:=F.un.tbls b _ e1
  exact⟨m1 ++ m2,by rw[e2,Array.append_assoc]⟩
 .refine(F.hok a u q).stay (fun b v hb z=>?_) (fun _ z=>z) fun _ _ z=>z
  rcases hb with rfl|hb
  .exact x1.1 b v (k2 b u v q z)
  .exact x1.1 b v (k2 b _ v hb z)
 .cases q:X.s₀.heap.get? e with
  |none=>rfl
  |some o=>
   obtain⟨o',q1⟩:=I.base.there e o q (noex e)
   rw[F.new] at q1;cases q1
 .refine⟨B,a0,x1,fun b o q n hb=>k1 b o (I.base.keep b o q n hb (noex b)) (I.base.free b o q n (noex b)) (I.notStk q hb),fun b o q hb=>?_,fun a u o q z=>?_⟩
  .obtain⟨o',q1⟩:=I.base.there b o q (noex b)
   exact kE b o' q1 (I.notStk q hb)
  .obtain⟨ob,q1⟩:=(F.hok a u q).there
   have q2:=k2 a u ob q q1
   have q3:=x1.1 a ob q2
   have z:h''.get? a=some o:=z
   rw[q3] at z;cases z
   exact q2
end
def Raises (X:Cx) (E:XK):Prop:=∀(pins:List (Addr×Obj)) (σ:St) (H:Hp) (s:Shared) (e:Addr) (cls:Value) (args:List Value) (h':Heap),
 Inv X pins σ H s->Heap.MadeExcOf s.heap h' e cls args->E cls none H->X.xe (.ref e) { s with heap:=h' }
section
variable {P:Program} {w:World} {K:PySem.W.Frag} {mg:Str->Option Value} {base:Heap} {N:List Str} {qual:Str} {sc:Scope} {f:Addr} {cd:Value} {A:Around} {outer:List Env} {s₀:Shared} {H₀:Hp} {E:XK} {cm:Bool}
theorem Ajf:Raises (P0 (CXo P w) P w K mg base N qual sc f cd A outer s₀ H₀ E cm) E:=fun pins σ H s e cls args h' I hx q=>
 I.fly_made rfl rfl rfl hx fun h'' F=>⟨e,cls,H,rfl,F,q⟩
theorem Ajg:Avh (CXo P w) (P0 (CXo P w) P w K mg base N qual sc f cd A outer s₀ H₀ E cm) E:=fun pins σ H s e s' I h=>by
 obtain⟨ea,cls,H',rfl,F,q⟩:=h
 exact I.fly_on rfl rfl rfl F fun h'' F'=>⟨ea,cls,H',rfl,F',q⟩
end
theorem Ap0 {K:PySem.W.Frag} {h:Heap} {C:Addr} {bmB:List Value} {newId:String} (X:K.In h) (q:PySem.W.excIn K C bmB newId=true) :
  ∃bm N nm qn bs hdct sn sub ab col dd k0 k1 k2 k3 k5 mN,h.get? C=some (excClassObj nm qn C N bs bm hdct sn sub ab col dd k0 k1 k2 k3 k5 newId)∧h.Ns N mN∧mN "__init__"=none∧OwnTail h bmB bm:=by
 unfold PySem.W.excIn at q
 split at q
 .rename_i dd cd sl ho
  split at q
  .rename_i C' bm k0 k1 k2 k3 n k5 hm hs
   simp only[Bool.and_eq_true,beq_iff_eq,Bool.not_eq_true'] at q
   obtain⟨⟨⟨⟨⟨rfl,rfl⟩,hdel⟩,ht⟩,hok⟩,hni⟩:=q
   obtain⟨nm,bs,mro,ns,qn,hd,sn,sub,ab,col,del⟩:=cd
   dsimp only at hm hdel hok hni
   subst hm hdel
   have hsl:sl=#[k0,k1,k2,k3,some (.builtin n),k5]:=by
    obtain⟨l⟩:=sl
    simp only at hs
    rw[hs]
   subst hsl
   exact⟨bm,ns,nm,qn,bs,hd,sn,sub,ab,col,dd,k0,k1,k2,k3,k5,_,X _ _ ho,.of_isNs (PySem.W.isNs_of_in X hok),PySem.W.nsMap_none_of_in X hok hni,PySem.W.tail_of_in X ht⟩
  .cases q
 .cases q
def Alu (ta:TA) (C:Addr) (E:XK):TS:=fun _ σ H=>ta σ H fun vs H1=>vs.length≤sizeLine∧E (.ref C) none H1
abbrev Wg:List Value:=[.type "ValueError",.type "Exception",.type "BaseException",.type "object"]
abbrev Yj (K:PySem.W.Frag) (C:Addr):Prop:=PySem.W.excIn K C Wg "ValueError.__new__"=true
theorem Alv {X:Cx} {E:XK} {x:Str} {C:Addr} {e₀:Expr} {es:List Expr} {ta:TA} {np cpos pos:Pos} (hx:Yj X.K C) (hg:Gl X x) (hm:X.mg x=some (.ref C)) (hc:X.calm=true) (hR:Raises X E) (ha:PA X (e₀::es) ta)
  (hd:(x==("__debug__":Str))=false:=by decide) (he:starEach (e₀::es) X.env=(false,eval e₀ X.env)::starEach es X.env:=by rfl) (hpl:(backTo cpos (starEach es X.env)).any (·.1)=false:=by rfl) :
  PS X (.Raise (some (.Call (.Name x np) (e₀::es) [] cpos)) none pos) (Alu ta C E):=by
 intro pins s σ H D I h
 obtain⟨tl,N,nm,q,bs,hdct,sn,sub,ab,col,dd,k0,k1,k2,k3,k5,mN,hC,hN,hni,T⟩:=Ap0 I.ok.mod.kin hx
 refine wpAny_Raise_call_subT (C:=C) (nm:=nm) (q:=q) (N:=N) (bs:=bs) (bm:=tl) (hdct:=hdct) (sn:=sn) (sub:=sub) (ab:=ab) (col:=col) (dd:=dd) (k0:=k0) (k1:=k1) (k2:=k2) (k3:=k3) (k5:=k5)
  PySem.F.excBase_ValueError (mN:=mN) (T.hasType PySem.F.excBase_ValueError.hasBase) (I.ok.hd hc) (by rw[he];show (false||(backTo cpos (starEach es X.env)).any (·.1))=false;rw[hpl];rfl) hni (Ov I hg hm ⟨rfl,?_⟩ hd)
 have ha':=ha cpos pins s σ H _ I h
 rw[he] at ha' ⊢
 refine Calls.evalArgs_plain (wpAny_mono ha' (fun us s2 h2=>?_) fun _ _ y=>y)
 obtain⟨vs,H2,I2,r,hl,q2⟩:=h2
 exact⟨rfl,by rw[←r.length];exact hl,I2.bk _ _ hC,hN.keeps I2.bk,T.keeps I2.bk,fun h' e hmade=>hR pins σ H2 s2 e (.ref C) us h' I2 hmade q2⟩
def Fw (CX:CXT) (X:Cx) (E:St->XK):Prop:=∀(pins:List (Addr×Obj)) (σ:St) (H:Hp) (s:Shared) (e:Value) (s':Shared),Inv X pins σ H s->CX X.stack H s (E σ) e s'->X.xe e s'
def Afl (sp:Sp) (dvs:List V) (E:St->XK) (t:TA):TE:=fun σ H Q=>t σ H fun vs H1=>sp (vs ++ dvs) H1 Q (E σ)
theorem Ac1 {X:Cx} {CX:CXT} {k:Nat} {f:Addr} {fd:FuncData} {ps:List Str} {sp:Sp} {dvs:List V} {ds:List Value} {E:St->XK} {x:Str} {p pos:Pos} {e:Expr} {es:List Expr} {t:TA} {cm:Bool}
  (F:Ib X.prog X.w X.K X.mg X.base CX k f fd ps sp cm) (hr:Ht k X.A cm) (hg:Gl X x) (hm:X.mg x=some (.ref f)) (hk:PySem.W.keepIn X.K (.ref f)=true) (hb:Binds X.K fd ps ds) (hd:Vals dvs ds) (hx:Fw CX X E)
  (ha:PA X (e::es) t) (hdb:(x==("__debug__":Str))=false:=by decide) (he:starEach (e::es) X.env=(false,eval e X.env)::starEach es X.env:=by rfl) (hpl:(backTo pos (starEach es X.env)).any (·.1)=false:=by rfl) :
  PE X (.Call (.Name x p) (e::es) [] pos) (Afl sp dvs E t):=by
 intro pins s σ H Q I h
 refine wpAny_Call_Name_kw (Ov I hg hm ?_ hdb)
 refine PySem.W.callWith_K (h₀:=X.base) I.ok.mod.kin hk (thn (ha pos pins s σ H _ I h) fun us s1 ⟨vs,H1,I1,r,q⟩=>⟨I1.kIn,?_⟩) he hpl
 have r2:Vals (vs ++ dvs) (us ++ ds):=r.append hd
 have hl:(us ++ ds).length=ps.length:=by rw[←r2.length];exact F.len _ _ _ _ q
 refine wpAny_call (codeAny_mono (F.run X.A X.stack s1 H1 ⟨us,[]⟩ (us ++ ds) (vs ++ dvs) Q (E σ) hr I1.env0 (hb s1 us I1.kIn hl) r2 q) fun r s' hq=>?_)
 cases r with
 |error e=>exact hx pins σ H1 s1 e s' I1 hq
 |ok fl=>
  cases fl with
  |ret u=>exact I1.after hq
  |next=>exact False.elim hq
  |brk=>exact False.elim hq
  |cont=>exact False.elim hq
def Aav (a:Addr) (cls:Value):HO:=.ext fun h=>∃o vs,h.get? a=some o∧o.cls=cls∧o.data=.fields vs
abbrev Cx.tryB (X:Cx) (pn:List (Addr×Obj)) (xe:Value->Shared->Prop):Cx:={ X with pn:=pn,xe:=xe }
abbrev Cx.suite (X:Cx) (e:Addr):Cx:={ X with A:=X.A.mark (some (.ref e)),calm:=false,xe:=fun _ _=>False }
section
variable {X:Cx} {pins pins':List (Addr×Obj)} {σ:St} {H H':Hp} {s s':Shared} {xe:Value->Shared->Prop}
theorem Inv.tryIn (I:Inv X pins σ H s):Inv (X.tryB (X.pn ++ pins) xe) [] σ H s:=
 ⟨⟨I.ok.mod,I.ok.kind,I.ok.glob,I.ok.blt,I.ok.above,I.ok.inj,I.ok.has,I.ok.cab,I.ok.hd,I.ok.frames,I.ok.stk,I.ok.exf,I.ok.bs,I.ok.bsz,I.ok.noex,I.ok.exfs,I.ok.funs,I.ok.frf⟩,
 I.os,I.bare,I.base,I.loc,I.cell,I.free,I.freeC,fun p hp=>I.pin p (by simpa using hp),I.hok,I.len⟩
theorem Inv.tryOut (I:Inv (X.tryB (X.pn ++ pins) xe) pins' σ H s):Inv X pins σ H s:=
 ⟨⟨I.ok.mod,I.ok.kind,I.ok.glob,I.ok.blt,I.ok.above,I.ok.inj,I.ok.has,I.ok.cab,I.ok.hd,I.ok.frames,I.ok.stk,I.ok.exf,I.ok.bs,I.ok.bsz,I.ok.noex,I.ok.exfs,I.ok.funs,I.ok.frf⟩,
 I.os,I.bare,I.base,I.loc,I.cell,I.free,I.freeC,fun p hp=>I.pin p (List.mem_append_left _ hp),I.hok,I.len⟩
theorem Inv.suiteIn (I:Inv X pins σ H s) (e:Addr):Inv (X.suite e) pins σ H s:=
 ⟨⟨I.ok.mod,I.ok.kind,I.ok.glob,I.ok.blt,I.ok.above,I.ok.inj,I.ok.has,I.ok.cab,fun z=>Bool.noConfusion (show false=true from z),I.ok.frames,I.ok.stk,I.ok.exf,I.ok.bs,I.ok.bsz,I.ok.noex,I.ok.exfs,I.ok.funs,I.ok.frf⟩,
 I.os,I.bare,I.base,I.loc,I.cell,I.free,I.freeC,I.pin,I.hok,I.len⟩
theorem Inv.suiteOut {e:Addr} (hd:X.calm=true->X.A.handled=none) (I:Inv (X.suite e) pins σ H s):Inv X pins σ H s:=
 ⟨⟨I.ok.mod,I.ok.kind,I.ok.glob,I.ok.blt,I.ok.above,I.ok.inj,I.ok.has,I.ok.cab,hd,I.ok.frames,I.ok.stk,I.ok.exf,I.ok.bs,I.ok.bsz,I.ok.noex,I.ok.exfs,I.ok.funs,I.ok.frf⟩,
 I.os,I.bare,I.base,I.loc,I.cell,I.free,I.freeC,I.pin,I.hok,I.len⟩
theorem Inv.goes {i:Nat} {x:Str} {h':Heap} {v:Option Value} {m:Str->Option Value} {t':Nat} (I:Inv X pins σ H s) (hN:X.N.Nodup) (hi:X.N[i]?=some x) (hn:s.heap.Ns X.env.locals m)
  (hl:∀(j:Nat) (y:Str) (v:V),X.N[j]?=some y->σ[j]?=some (some v)->Vis X.env.scope y->∃u,RelV v u∧Look X.env s.heap m y u)
  (hn':h'.Ns X.env.locals (fun y=>if y=x then v else m y)) (hs:Heap.SameBut X.env.locals s.heap h'):Inv X pins (σ.set i none) H { s with heap:=h',toks:=t' }:=by
 have cne:=I.cne
 obtain⟨oL,_,_,hoL,_⟩:=id hn
 have tracked:HOk X.prog X.w H h':=fun b ob e=>by
  refine(I.hok b ob e).stay (fun c w' hc q=>(hs.2 c ?_).trans q) (fun _ q=>q) fun _ _ q=>q
  rintro rfl
  rcases hc with rfl|hc
  .rw[I.free] at e;cases e
  .rw[I.free] at hc;cases hc
 have neL:∀{b:Addr} {o:Obj},X.s₀.heap.get? b=some o->b≠X.env.locals:=fun e=>Nat.ne_of_lt (Nat.lt_of_lt_of_le (Heap.lt_size e) I.ok.above)
 refine⟨I.ok,I.os,I.bare,⟨fun b o e n hb hx=>?_,fun b o e n hb hx=>?_,I.base.free,fun b o e hx=>?_,I.base.tups,I.base.frzs,I.base.tbls⟩,⟨_,hn',fun j y v' e1 e2 e3=>?_⟩,fun y c e=>?_,I.free,I.freeC,fun p hp=>?_,tracked,by simpa using I.len⟩
 .exact(hs.2 b (neL e)).trans (I.base.keep b o e n hb hx)
 .obtain⟨sl,e1⟩:=I.base.slot b o e n hb hx
  exact⟨sl,(hs.2 b (neL e)).trans e1⟩
 .obtain⟨o',e1⟩:=I.base.there b o e hx
  exact⟨o',(hs.2 b (neL e)).trans e1⟩
 .by_cases hj:j=i
  .subst hj
   have hj':j < σ.length:=by
    by_cases hz:j < σ.length
    .exact hz
    .rw[List.getElem?_eq_none (by simpa using hz)] at e2;cases e2
   rw[List.getElem?_set_self hj'] at e2
   cases e2
  .rw[List.getElem?_set_ne (Ne.symm hj)] at e2
   obtain⟨u',r',q⟩:=hl j y v' e1 e2 e3
   refine⟨u',r',?_⟩
   rcases q with ⟨k,e⟩|⟨k,c,e,z⟩
   .refine .inl ⟨k,?_⟩
    have:y≠x:=fun e=>hj (V3 hN e1 (e ▸ hi))
    simp[this,e]
   .exact .inr ⟨k,c,e,z.sameBut hs (cne y c e)⟩
 .obtain⟨w',z⟩:=I.cell y c e
  exact⟨w',z.sameBut hs (cne y c e)⟩
 .obtain⟨e,n,ne,nf,d⟩:=I.pin p hp
  exact⟨(hs.2 p.1 ne).trans e,n,ne,nf,d⟩
theorem Inv.caught {e:Addr} {cls:Value} {h6:Heap} {B:Heap} {a0:Value} (I:Inv X pins σ H s) (hstk:X.stack=X.env::X.outer) (hfr:X.env.frame=some X.env.locals) (F:Fly X.prog X.w X.stack H s H' e cls s')
  (fl:Heap.FlyingW B X.stack e cls a0 s'.heap) (k1:∀b o,s.heap.get? b=some o->H b=none->b∉frs X.stack->B.get? b=some o) (kE:∀b o,s.heap.get? b=some o->b∉frs X.stack->∃o',B.get? b=some o')
  (k2:∀a u o,H' a=some u->s'.heap.get? a=some o->B.get? a=some o) (fl6:Heap.FlyingW B X.stack e cls a0 h6) (sm:s'.heap.UpToSlots h6) :
  Inv X pins σ (upd H' e (Aav e cls)) { s' with heap:=h6 }:=by
 obtain⟨hh,g,d,t,os'⟩:=s'
 obtain rfl:os'=s.os:=F.os
 have frm:∀b o,hh.get? b=some o->b∈frs X.stack->∃sl,h6.get? b=some { o with slots:=sl }:=fun b o q hb=>by
  obtain⟨_,o',q',nf⟩:=fl.2.2.1.mem hb
  have q':hh.get? b=some o':=q'
  rw[q] at q';cases q'
  exact sm b o q nf
 have nstk:∀b,b≠X.env.locals->b∉X.fs->b∉frs X.stack:=fun b h1 h2 z=>(List.mem_cons.mp (I.stkSub b z)).elim h1 h2
 have ne:∀{b:Addr} {u:HO},H' b=some u->b≠e:=fun q=>Bt q F.fre
 refine I.step (s:=s) (g':=g) (d':=d) (t':=t) (h':=h6) (ch:=[]) (fun _ z=>nomatch z) (fun b o h1 h2 _ q n=>fl6.1 b o (k1 b o q n (nstk b h1 h2))) (fun b o _ h2 _ q n=>?_) (fun b o _ q n=>?_) (fun b o _ q=>?_)
  (fun b xs q=>by have z:=F.un.tups b xs q;rw[Bb (ne z)];exact z) (fun b o u q=>by have z:=F.un.frzs b o u q;rw[Bb (ne z)];exact z) (fun b ps q=>?_) (fun m hm=>?_) (fun a u q=>?_) F.bare
 .have hb:=I.fsStk hstk b h2
  obtain⟨sl,q1⟩:=F.un.slot b o q n hb (by simp)
  obtain⟨sl',q2⟩:=frm b _ q1 hb
  exact⟨sl',q2⟩
 .rw[Bb (by rintro rfl;rw[F.new] at q;cases q)]
  exact F.un.free b o q n (by simp)
 .by_cases hb:b∈frs X.stack
  .obtain⟨_,o'',q2,_⟩:=fl.2.2.1.mem hb
   obtain⟨sl,q3⟩:=frm b o'' q2 hb
   exact⟨_,q3⟩
  .obtain⟨o'',q2⟩:=kE b o q hb
   exact⟨o'',fl6.1 b o'' q2⟩
 .obtain⟨m,z⟩:=F.un.tbls b ps q
  exact⟨m,by rw[Bb (ne z)];exact z⟩
 .obtain⟨o,es,ep,ho,r⟩:=hm
  have hb:=I.locStk hstk hfr
  obtain⟨sl,q1⟩:=F.un.slot X.env.locals o ho I.free hb (by simp)
  obtain⟨sl',q2⟩:=frm X.env.locals _ q1 hb
  exact⟨_,es,ep,q2,r⟩
 .by_cases ha:a=e
  .subst ha
   rw[Bo] at q;cases q
   obtain⟨oe,vs,ho,hc,hd,_⟩:=fl6.first
   refine⟨⟨oe,vs,ho,hc,hd⟩,⟨oe,ho⟩,fun h1 h2 p k=>?_⟩
   obtain⟨o,vs',p1,p2,p3⟩:=p
   exact⟨o,vs',k o p1,p2,p3⟩
  .rw[Bb ha] at q
   refine(F.hok a u q).stay (fun b v hb z=>?_) (fun b z=>by rw[Bb (ne z)];exact z) fun b xs z=>by rw[Bb (ne z)];exact z
   rcases hb with rfl|hb
   .exact fl6.1 b v (k2 b u v q z)
   .exact fl6.1 b v (k2 b _ v hb z)
end
def Azh (K:PySem.W.Frag) (C:Addr) (i:Nat) (tb:(St->XK)->TS) (th:TS):TS:=fun D σ H=>
 tb (fun σ' cls _ H'=>PySem.W.exmOne K cls (.ref C)=some true∧∀ea,H' ea=none->th { nx:=fun σ2 H2=>D.nx (σ2.set i none) H2,rt:=D.rt,bk:=fun σ2 H2=>D.bk (σ2.set i none) H2,ct:=fun σ2 H2=>D.ct (σ2.set i none) H2 }
  (σ'.set i (some (.ref ea))) (upd H' ea (Aav ea cls))) D σ H
theorem Avr {X:Cx} {body suite:List Stmt} {b₀:Stmt} {x n:Str} {C:Addr} {i:Nat} {np hpos pos:Pos} {tb:(St->XK)->TS} {th:TS} (hstk:X.stack=X.env::X.outer) (hfr:X.env.frame=some X.env.locals)
  (hN:X.N.Nodup) (hi:X.N[i]?=some n) (hn:X.env.scope.names.lookup n=some .local) (hg:Gl X x) (hm:X.mg x=some (.ref C)) (hd:(x==("__debug__":Str))=false:=by decide)
  (hb:∀(pn:List (Addr×Obj)) (xe:Value->Shared->Prop) (E:St->XK),Fw (CXo X.prog X.w) (X.tryB pn xe) E->PSs (X.tryB pn xe) body (tb E))
  (hs:∀e,PSs (X.suite e) (b₀::suite) th) :
  PS X (.Try body [.ExceptHandler (some (.Name x np)) (some n) (b₀::suite) hpos] [] [] pos) (Azh X.K C i tb th):=by
 intro pins s σ H D I h
 have hkL:X.env.kindOf n=some .local:=hn
 have hcls:(X.env.scope.kind==.class||(X.env.scope.kind==.module&&X.env.locals != X.env.globals))=false:=by rw[I.ok.kind];rfl
 refine wpAny_Try_except (wpAny_mono (hb (X.pn ++ pins) _ _ ?pass [] s σ H D I.tryIn h) (fun f s1 q=>?_) fun e s1 q=>q)
 case pass=>
  intro pins' σ1 H1 s1 e s2 I1 hcx
  obtain⟨ea,cls,H2,rfl,F,hx,q⟩:=hcx
  have I1:Inv X pins σ1 H1 s1:=I1.tryOut
  obtain⟨B,a0,fl,k1,kE,k2⟩:=F.fly
  have fl':=fl
  rw[hstk] at fl'
  refine wpAny_looks_onW (by rw[I1.ok.frames,hstk]) hfr fl' fun h4 held sm4=>?_
  refine wpAny_landsW held fun h5 fl5 sm5=>?_
  have bk5:∀b o,X.base.get? b=some o->h5.get? b=some o:=fun b o e=>fl5.1 b o (k1 b o (I1.bs b o e).1 (I1.bs b o e).2 fun m=>by
   have z:=(I1.stack.mem m).1
   rw[e] at z;cases z)
  have K5:X.K.In h5:=I1.ok.mod.kin.keeps bk5
  have LT:PySem.W.Looks (model X.prog X.w) h5 (typeOf (.ref ea)) cls:=by
   obtain⟨ob,ho,hc⟩:=fl5.there
   exact hc ▸ (PySem.W.Looks.ld ho).andThen .now
  refine wpAny_handleBy_cons (codeAny_handlers_test ?_) (by intro q;cases q)
  refine Calls.Name_function_global I1.ok.kind hg (Calls.loadGlobal_global (by rw[I1.ok.glob];exact I1.mod.glob.keeps bk5) hm ?_) hd
  refine(PySem.W.exm_one K5 LT hx) _ _ _ _ (fun _ _ e=>e) ?_
  show codeAny _ _ _ _ _
  refine codeAny_handlers_suite_as (lands_againW fl5 fun h6 fl6 sm6=>?_)
  have fl6':=fl6
  rw[←hstk] at fl6'
  have I6:Inv X pins σ1 (upd H2 ea (Aav ea cls)) { s2 with heap:=h6 }:=I1.caught hstk hfr F fl k1 kE k2 fl6' (sm4.trans (sm5.trans sm6))
  refine V4 I6 hN hi (.inl hn) (v:=.ref ea) rfl (fun s7 I7=>?_) (.inr hn)
  refine wpAny_mono (hs ea pins s7 _ _ _ (I7.suiteIn ea) (q ea F.fre)) (fun f s8 q8=>?_) fun _ _ z=>z.elim
  have out:∀{σ8:St} {H8:Hp},Inv (X.suite ea) pins σ8 H8 s8->∀{Q':Flow->Shared->Prop},(∀s9,Inv X pins (σ8.set i none) H8 s9->Q' f s9)->
    wpAny (model X.prog X.w) X.A (do bindName X.env n .none;unbindBehindTheSuite X.env n hpos) (fun _ s9=>Q' f s9) X.xe s8:=fun {σ8 H8} J {Q'} k=>by
   have J:Inv X pins σ8 H8 s8:=J.suiteOut I.ok.hd
   obtain⟨m,hm',hl⟩:=id J.loc
   exact wpAny_nameGoes_keeps hkL hm' hcls fun h' v hn' hs'=>k _ (J.goes hN hi hm' hl hn' hs')
  cases f with
  |next=>obtain⟨σ8,H8,I8,z⟩:=q8;exact out I8 (Q':=SP X pins D) fun s9 I9=>⟨_,H8,I9,z⟩
  |brk=>obtain⟨σ8,H8,I8,z⟩:=q8;exact out I8 (Q':=SP X pins D) fun s9 I9=>⟨_,H8,I9,z⟩
  |cont=>obtain⟨σ8,H8,I8,z⟩:=q8;exact out I8 (Q':=SP X pins D) fun s9 I9=>⟨_,H8,I9,z⟩
  |ret u=>obtain⟨v,σ8,H8,I8,r8,z⟩:=q8;exact out I8 (Q':=SP X pins D) fun s9 I9=>⟨v,_,H8,I9,r8,z⟩
 .cases f with
  |next=>obtain⟨σ8,H8,I8,z⟩:=q;exact wpAny_execs_nil ⟨σ8,H8,I8.tryOut,z⟩
  |brk=>obtain⟨σ8,H8,I8,z⟩:=q;exact⟨σ8,H8,I8.tryOut,z⟩
  |cont=>obtain⟨σ8,H8,I8,z⟩:=q;exact⟨σ8,H8,I8.tryOut,z⟩
  |ret u=>obtain⟨v,σ8,H8,I8,r8,z⟩:=q;exact⟨v,σ8,H8,I8.tryOut,r8,z⟩
def J1 (cells:List (Str×Addr)):List (Str×NameKind)->List (Str×Addr)->List (Str×Addr)
 |[],acc=>acc
 |(n,k)::r,acc=>if (k==.free)=true then J1 cells r ((n,(cells.lookup n).getD 0)::acc) else J1 cells r acc
theorem Afm {scope:Scope} {env:Env} (h:∀x∈scope.names,x.2=.free->∃c,env.cells.lookup x.1=some c):closureFor scope env=pure (J1 env.cells scope.names []):=by
 have all:∀(l:List (Str×NameKind)) (acc:List (Str×Addr)),(∀x∈l,x.2=.free->∃c,env.cells.lookup x.1=some c)->
   (forIn l acc fun(x:Str×NameKind) (r:List (Str×Addr))=>match x with
    |(name,kind)=>if (kind==NameKind.free)=true then (do let a←cellOf env name;pure (ForInStep.yield ((name,a)::r)):Sem (ForInStep (List (Str×Addr)))) else pure (ForInStep.yield r))=pure (J1 env.cells l acc):=by
  intro l
  induction l with
  |nil=>intro acc _;rfl
  |cons y r ih=>
   intro acc hl
   obtain⟨n,k⟩:=y
   rw[List.forIn_cons]
   dsimp only
   by_cases hk:(k==NameKind.free)=true
   .obtain⟨c,hc⟩:=hl (n,k) List.mem_cons_self (beq_iff_eq.mp hk)
    have hc:env.cells.lookup n=some c:=hc
    have hco:cellOf env n=pure c:=by unfold cellOf;rw[hc]
    rw[if_pos hk,hco]
    simp only[pure_bind]
    rw[ih _ fun x hx=>hl x (List.mem_cons_of_mem _ hx)]
    conv=>rhs;unfold J1
    rw[if_pos hk,hc]
    rfl
   .rw[if_neg hk]
    simp only[pure_bind]
    rw[ih _ fun x hx=>hl x (List.mem_cons_of_mem _ hx)]
    conv=>rhs;unfold J1
    rw[if_neg hk]
 have q:=all scope.names [] h
 unfold closureFor
 dsimp only
 rw[q]
 rfl
theorem Wh {cells:List (Str×Addr)}:∀(l:List (Str×NameKind)) (acc:List (Str×Addr)) (x:Str) (c:Addr),(∀y∈l,y.2=.free->∃c,cells.lookup y.1=some c)->(J1 cells l acc).lookup x=some c->
  acc.lookup x=some c∨cells.lookup x=some c
 |[],acc,x,c,_,h=>.inl h
 |(n,k)::r,acc,x,c,hl,h=>by
  unfold J1 at h
  by_cases hk:(k==NameKind.free)=true
  .rw[if_pos hk] at h
   obtain⟨d,hd⟩:=hl (n,k) List.mem_cons_self (beq_iff_eq.mp hk)
   have hd:cells.lookup n=some d:=hd
   rcases Wh r _ x c (fun y hy=>hl y (List.mem_cons_of_mem _ hy)) h with q|q
   .rw[hd,Option.getD_some,List.lookup_cons] at q
    cases e:x==n with
    |true=>
     rw[e] at q
     have z:x=n:=beq_iff_eq.mp e
     subst z
     exact .inr (hd.trans q)
    |false=>rw[e] at q;exact .inl q
   .exact .inr q
  .rw[if_neg hk] at h
   exact Wh r acc x c (fun y hy=>hl y (List.mem_cons_of_mem _ hy)) h
theorem Qc {cells:List (Str×Addr)}:∀(l:List (Str×NameKind)) (acc:List (Str×Addr)) (x:Str),(∃c,acc.lookup x=some c)->∃c,(J1 cells l acc).lookup x=some c
 |[],acc,x,h=>h
 |(n,k)::r,acc,x,h=>by
  unfold J1
  by_cases hk:(k==NameKind.free)=true
  .rw[if_pos hk]
   refine Qc r _ x ?_
   rw[List.lookup_cons]
   cases e:x==n with
   |true=>exact⟨_,rfl⟩
   |false=>exact h
  .rw[if_neg hk]
   exact Qc r acc x h
theorem Ow {cells:List (Str×Addr)}:∀(l:List (Str×NameKind)) (acc:List (Str×Addr)) (x:Str),(x,NameKind.free)∈l->∃c,(J1 cells l acc).lookup x=some c
 |(n,k)::r,acc,x,h=>by
  unfold J1
  rcases List.mem_cons.mp h with e|e
  .obtain⟨e1,e2⟩:=Prod.mk.inj e
   subst e1
   subst e2
   rw[if_pos (by rfl)]
   refine Qc r _ x ⟨(cells.lookup x).getD 0,?_⟩
   rw[List.lookup_cons,beq_self_eq_true]
  .by_cases hk:(k==NameKind.free)=true
   .rw[if_pos hk];exact Ow r _ x e
   .rw[if_neg hk];exact Ow r acc x e
theorem Aaw {scope:Scope} {env:Env} {x:Str} (hcell:∀y∈scope.names,y.2≠.cell) (h:(relabel scope env).names.lookup x=some .cell∨(relabel scope env).names.lookup x=some .free):(x,NameKind.free)∈scope.names:=by
 have go:∀(l:List (Str×NameKind)) (k:NameKind),(∀y∈l,y.2≠.cell)->k=.cell∨k=.free->
   (l.map fun(n,k)=>if (k==NameKind.free&&env.scope.kind==.function&&env.kindOf n==some .cell) then (n,NameKind.cell) else (n,k)).lookup x=some k->(x,NameKind.free)∈l:=by
  intro l
  induction l with
  |nil=>intro k _ _ h;simp at h
  |cons y r ih=>
   intro k hc hk h
   obtain⟨n,kk⟩:=y
   have hkk:kk≠.cell:=hc (n,kk) List.mem_cons_self
   rw[List.map_cons,List.lookup_cons] at h
   dsimp only at h
   by_cases hb:(kk==NameKind.free&&env.scope.kind==.function&&env.kindOf n==some .cell)=true
   .rw[if_pos hb] at h
    dsimp only at h
    cases e:x==n with
    |true=>
     have z:x=n:=beq_iff_eq.mp e
     subst z
     simp only[Bool.and_eq_true,beq_iff_eq] at hb
     rw[←hb.1.1]
     exact List.mem_cons_self
    |false=>
     rw[e] at h
     exact List.mem_cons_of_mem _ (ih k (fun y hy=>hc y (List.mem_cons_of_mem _ hy)) hk h)
   .rw[if_neg hb] at h
    dsimp only at h
    cases e:x==n with
    |true=>
     have z:x=n:=beq_iff_eq.mp e
     subst z
     rw[e] at h
     have h:kk=k:=Option.some.inj h
     subst h
     rcases hk with hk|hk
     .exact absurd hk hkk
     .rw[hk];exact List.mem_cons_self
    |false=>
     rw[e] at h
     exact List.mem_cons_of_mem _ (ih k (fun y hy=>hc y (List.mem_cons_of_mem _ hy)) hk h)
 rcases h with h|h
 .exact go scope.names .cell hcell (.inl rfl) h
 .exact go scope.names .free hcell (.inr rfl) h
theorem Aax {scope:Scope} {env:Env} {x:Str} (h:scope.names.lookup x=some .free):(relabel scope env).names.lookup x=some .cell∨(relabel scope env).names.lookup x=some .free:=by
 show List.lookup x (scope.names.map fun(n,k)=>if (k==NameKind.free&&env.scope.kind==.function&&env.kindOf n==some .cell) then (n,NameKind.cell) else (n,k))=some .cell∨List.lookup x (scope.names.map fun(n,k)=>if (k==NameKind.free&&env.scope.kind==.function&&env.kindOf n==some .cell) then (n,NameKind.cell) else (n,k))=some .free
 revert h
 generalize scope.names=l
 intro h
 induction l with
 |nil=>simp at h
 |cons y r ih=>
  obtain⟨n,kk⟩:=y
  rw[List.map_cons,List.lookup_cons]
  dsimp only
  rw[List.lookup_cons] at h
  by_cases hb:(kk==NameKind.free&&env.scope.kind==.function&&env.kindOf n==some .cell)=true
  .rw[if_pos hb]
   dsimp only
   cases e:x==n with
   |true=>exact .inl rfl
   |false=>rw[e] at h;exact ih h
  .rw[if_neg hb]
   dsimp only
   cases e:x==n with
   |true=>rw[e] at h;exact .inr h
   |false=>rw[e] at h;exact ih h
def Cx.comp (X:Cx) (scope:Scope) (own:List Str) (cap:List Nat) (C:Addr) (s:Shared) (H:Hp) (ex:List Addr):Cx where
 prog:=X.prog
 w:=X.w
 K:=X.K
 mg:=X.mg
 base:=X.base
 A:=X.A
 N:=own ++ cap.map fun j=>X.N.getD j ""
 s₀:=s
 H₀:=H
 env:=compEnvC scope (J1 X.env.cells scope.names []) C X.env
 outer:=X.stack
 stack:=X.stack
 ex:=ex
 fn:=fun _=>false
 calm:=X.calm
 pn:=[]
 xe:=fun _ _=>False
def Alw (own:List Str) (cap:List Nat) (σ:St):St:=List.replicate own.length none ++ cap.map fun j=>σ.getD j none
def PTs (X:Cx) (ifs:List Expr) (t:TT):Prop:=
 ∀(pins:List (Addr×Obj)) (s:Shared) (σ:St) (H:Hp) (Q:Bool->Hp->Prop),Inv X pins σ H s->t σ H Q->
  wpAny (model X.prog X.w) X.A (forIn ifs true fun c r=>if r=true then do let ok←isTrue c X.env (eval c X.env);pure (ForInStep.yield ok) else pure (ForInStep.yield r)) (TP X pins σ Q) X.xe s
def Vm:TT:=fun _ H Q=>Q true H
theorem Ap1 {X:Cx}:PTs X [] Vm:=fun _ _ _ H _ I h=>wpAny_tests_nil ⟨H,I,h⟩
theorem Ap2 {X:Cx} {c:Expr} {t:TT} (h:PT X c t):PTs X [c] t:=fun pins s σ H Q I q=>wpAny_tests_one (h pins s σ H Q I q)
section
variable {prog:Program} {w:World} {A:Around} {E:Value->Shared->Prop} {R:Result->Shared->Prop} {s:Shared}
theorem Aay {elt target iter:Expr} {ifs:List Expr} {scope:Scope} {pos:Pos} {it acc:Value} {env:Env} (I:Nat->Shared->Prop)
  (turn:∀n s,I n s->wpAny (model prog w) A (pyNext it) (fun r s₁=>match r with
   |none=>R (.ok .next) s₁
   |some v=>wpAny (model prog w) A (letOwnedTupleGo target it v) (fun _ s₁'=>wpAny (model prog w) A (assign target env v) (fun _ s₂=>
     wpAny (model prog w) A (forIn ifs true fun c r=>if r=true then do let ok←isTrue c env (eval c env);pure (ForInStep.yield ok) else pure (ForInStep.yield r)) (fun ok s₃=>
      if ok=true then wpAny (model prog w) A (eval elt env) (fun x s₄=>
       wpAny (model prog w) A (call (.builtin "list.append") [acc,x]) (fun _ s₅=>∃m,m < n∧I m s₅) (fun _ _=>False) s₄) (fun _ _=>False) s₃
      else ∃m,m < n∧I m s₃) (fun _ _=>False) s₂) (fun _ _=>False) s₁') (fun _ _=>False) s₁) (fun _ _=>False) s)
  (n:Nat) (h:I n s):codeAny (model prog w) A (.compLoop (.ListComp elt [⟨target,iter,ifs,0⟩] scope pos) 0 it acc env) R s:=by
 refine codeAny_loop rfl I (fun n s hI=>?_) n h
 show wpAny _ A ((compTurn (.ListComp elt [⟨target,iter,ifs,0⟩] scope pos) 0 it acc env).onRaise (fun x=>do noteFrame x env;theTreesLotGoes x)) _ _ s
 refine wpAny_noted ?_
 rw[compTurn_list]
 refine wpAny_bind (wpAny_standAt (wpAny_bind (wpAny_mono (turn n s hI) (fun r s₁ h₁=>?_) fun _ _ z=>z.elim)))
 cases r with
 |none=>exact wpAny_pure h₁
 |some v=>
  refine wpAny_bind (wpAny_mono h₁ (fun _ s₁' h₁'=>?_) fun _ _ z=>z.elim)
  refine wpAny_bind (wpAny_mono h₁' (fun _ s₂ h₂=>wpAny_bind (wpAny_mono h₂ (fun ok s₃ h₃=>?_) fun _ _ z=>z.elim)) fun _ _ z=>z.elim)
  cases ok with
  |false=>exact wpAny_pure ⟨rfl,h₃⟩
  |true=>
   exact wpAny_bind (wpAny_bind (wpAny_mono h₃ (fun x s₄ h₄=>wpAny_bind (wpAny_mono h₄ (fun _ s₅ h₅=>wpAny_pure (wpAny_pure ⟨rfl,h₅⟩)) fun _ _ z=>z.elim)) fun _ _ z=>z.elim))
end
def Za (J:It) (g:TG) (tt:TT) (te:TE) (D:Addr) (σ0:St) (H1:Hp) (Q:VK):Prop:=
 ∃W:Nat->Nat->List V->St->Hp->Prop,(∃m,W 0 m [] σ0 (upd H1 D (.lst [])))∧∀i m acc σ' H',W i m acc σ' H'->H' D=some (.lst acc)->
  (J.stop i H'∧Q (.ref D) H')∨(J.go i H'∧∀x H'',J.yld i H' x H''->g x σ' H'' fun σ2 H2=>tt σ2 H2 fun b H3=>if b=true then te σ2 H3 fun y H4=>
   H4 D=some (.lst acc)∧acc.length < sizeLine∧∃m',m' < m∧W (i+1) m' (acc ++ [y]) σ2 (upd H4 D (.lst (acc ++ [y])))
   else H3 D=some (.lst acc)∧∃m',m' < m∧W (i+1) m' acc σ2 H3)
def Zb (wi:TI) (g:TG) (tt:TT) (te:TE) (own:List Str) (cap:List Nat):TE:=fun σ H Q=>wi σ H fun J H1=>∀D,H1 D=none->Za J g tt te D (Alw own cap σ) H1 Q
theorem Zc {X:Cx} {use:Option (Value->Sem Unit)} {Q':Value->Shared->Prop} {pins:List (Addr×Obj)} {s:Shared} {σ:St} {H:Hp} {Q:VK} {p0:Pos} {elt iter tg:Expr} {ifs:List Expr} {scope:Scope} {pos:Pos} {wi:TI} {g:TG} {tt:TT} {te:TE} {own:List Str} {cap:List Nat} {es:Scope} (hc:X.calm=true) (hE:X.env.scope=es)
  (hi:PI X tg iter wi) (hg:∀C s H ex,PG (X.comp scope own cap C s H ex) tg g) (ht:∀C s H ex,PTs (X.comp scope own cap C s H ex) ifs tt) (he:∀C s H ex,PE (X.comp scope own cap C s H ex) elt te)
  (hcap:∀j∈cap,∃x,X.N[j]?=some x∧scope.names.lookup x=some .free) (hkind:scope.kind=.function:=by rfl) (hcell:∀y∈scope.names,y.2≠.cell:=by decide)
  (hnames:∀y∈scope.names,y.2=.local->scope.names.lookup y.1=some .local:=by decide)
  (hfree':∀y∈scope.names,y.2=.free->(es.names.lookup y.1=some .cell∨es.names.lookup y.1=some .free):=by decide +kernel) (hs:∀x,foldedSetIterable iter X.env x=pure x:=by intro _;rfl)
  (I:Inv X pins σ H s) (h:Zb wi g tt te own cap σ H Q)
  (fin:∀(D C:Addr) (s6:Shared) (H5:Hp) (m:Str->Option Value),(∀h',Heap.SameBut C s6.heap h'->Inv X pins σ H5 { s6 with heap:=h' })->s6.heap.Ns C m->V6 X pins H5 C->Q (.ref D) H5->
   compPost (model X.prog X.w) X.A X.xe use Q' (.ref D) C (.ok .next) s6) :
  wpAny (model X.prog X.w) X.A (comprehension (.ListComp elt [⟨tg,iter,ifs,0⟩] scope pos) scope X.env p0 (newList []) false (eval iter X.env) use) Q' X.xe s:=by
 subst hE
 have hfree:∀y∈scope.names,y.2=.free->(X.env.kindOf y.1=some .cell∨X.env.kindOf y.1=some .free):=hfree'
 have hfr:∀x∈scope.names,x.2=.free->∃c,X.env.cells.lookup x.1=some c:=fun x hx hk=>I.ok.has x.1 (hfree x hx hk)
 refine wpAny_comprehension_free (use:=use) rfl hs (Afm hfr) hkind hnames (thn (hi pins s σ H _ I h) fun v s1 h1=>thn h1 fun itv s2 h2=>?_)
 obtain⟨it,fp,tn,J,H2,rfl,I2,T,st2,f2,q⟩:=h2
 have hD2:H2 s2.heap.objs.size=none:=I2.hok.fresh (Nat.le_refl _)
 obtain⟨W,⟨m0,w0⟩,turn⟩:=q s2.heap.objs.size hD2
 refine wpAny_newObj_type ?_
 have I3:=I2.lnew (ys:=[]) (its:=[]) (t':=s2.toks) .nil (Nat.zero_le _)
 generalize hs3:({ s2 with heap:=s2.heap.push { cls:=.type "list",data:=.seq ([]:List Value).toArray } }:Shared)=s3 at I3 ⊢
 have fp3:∀b∈fp,∃o,s3.heap.get? b=some o∧∀v,o.data≠.cell v:=fun b hb=>by
  obtain⟨o,e,d⟩:=T.obj _ _ st2 b hb
  exact⟨o,by rw[←hs3];exact Heap.get?_push_of_some _ e,d⟩
 have st3:tn 0 s3.heap:=T.keep _ _ _ st2 fun b _ o e=>by rw[←hs3];exact Heap.get?_push_of_some _ e
 have hDl:s2.heap.objs.size < s3.heap.objs.size:=by rw[←hs3];simp[Heap.size_push]
 have fpD:∀b∈fp,b≠s2.heap.objs.size:=fun b hb z=>by
  obtain⟨o,e,_⟩:=T.obj _ _ st2 b hb
  exact absurd (Heap.lt_size e) (by rw[z];exact Nat.lt_irrefl _)
 refine wpAny_newFunctionEnv hcell (by intro y hy;simp at hy) (fun h₁ hns₁ hsb₁=>?_) hkind
 generalize hC:s3.heap.objs.size=C at hns₁ hsb₁ hDl ⊢
 have old:∀b o,s3.heap.get? b=some o->h₁.get? b=some o:=fun b o e=>hsb₁.extBut b o (by rw[←hC];exact Nat.ne_of_lt (Heap.lt_size e)) (Heap.get?_push_of_some _ e)
 have ltC:∀{b:Addr} {o:Obj},s3.heap.get? b=some o->b≠C:=fun e=>by rw[←hC];exact Nat.ne_of_lt (Heap.lt_size e)
 have cellIn:∀x c,(J1 X.env.cells scope.names []).lookup x=some c->X.env.cells.lookup x=some c:=fun x c e=>by
  rcases Wh scope.names [] x c hfr e with z|z
  .simp at z
  .exact z
 have fpX:∀b∈fp,V6 X pins (upd H2 s2.heap.objs.size (.lst [])) b:=fun b hb=>⟨by rw[Bb (fpD b hb)];exact(f2 b hb).1,(f2 b hb).2⟩
 have I4:Inv (X.comp scope own cap C s3 (upd H2 s2.heap.objs.size (.lst [])) fp) [] (Alw own cap σ) (upd H2 s2.heap.objs.size (.lst [])) { s3 with heap:=h₁,toks:=s3.toks+([]:List (Str×Value)).length }:=by
  refine⟨⟨I.ok.mod,hkind,I.ok.glob,I.ok.blt,Nat.le_of_eq hC,fun x y c h1 h2=>I.ok.inj x y c (cellIn x c h1) (cellIn y c h2),fun x hx=>Ow _ _ x (Aaw hcell hx),fun x c z=>absurd z (by show ¬ (false=true);decide),
   I.ok.hd,I.ok.frames,.inl rfl,fun b hb=>⟨?_,fun x c e=>(fpX b hb).2.2.2.2.1 x c (cellIn x c e)⟩,I3.bs,Nat.le_trans I3.ok.bsz I3.sz,fun b o e hb=>?_,fun b hb z=>?_,I3.stack,I3.stkFree⟩,
   rfl,I3.bare,Un.kept old,⟨_,hns₁,fun i x v e1 e2 e3=>?_⟩,fun x c e=>?_,?_,fun x c e=>I3.freeC x c (cellIn x c e),fun p hp=>absurd (show p∈([]:List (Addr×Obj)) ++ [] from hp) (by simp),I3.hok.kept old,?_⟩
  .obtain⟨o,e,_⟩:=fp3 b hb
   exact ltC e
  .rcases(fpX b hb).2.2.2.1 with z|z
   .exact I.ok.noex b o e z
   .exact absurd (Nat.lt_of_lt_of_le (Heap.lt_size e) (Nat.le_trans I.ok.bsz z)) (Nat.lt_irrefl _)
  .exact(List.mem_cons.mp (I3.stkSub b z)).elim (fpX b hb).2.1 (fpX b hb).2.2.1
  .
   have hlen:(List.replicate own.length (none:Option V)).length=own.length:=List.length_replicate
   by_cases hi:i < own.length
   .have e2:(List.replicate own.length (none:Option V) ++ cap.map fun j=>σ.getD j none)[i]?=some (some v):=e2
    rw[List.getElem?_append_left (by rw[hlen];exact hi),List.getElem?_replicate] at e2
    split at e2 <;> cases e2
   .have e2:(List.replicate own.length (none:Option V) ++ cap.map fun j=>σ.getD j none)[i]?=some (some v):=e2
    have e1:(own ++ cap.map fun j=>X.N.getD j "")[i]?=some x:=e1
    rw[List.getElem?_append_right (by rw[hlen];omega),List.getElem?_map,hlen] at e2
    rw[List.getElem?_append_right (by omega),List.getElem?_map] at e1
    cases ej:cap[i - own.length]? with
    |none=>rw[ej] at e1;cases e1
    |some j=>
     rw[ej] at e1 e2
     obtain⟨y,hy,hf⟩:=hcap j (List.mem_of_getElem? ej)
     have e1:X.N.getD j ""=x:=Option.some.inj e1
     have e2:σ.getD j none=some v:=Option.some.inj e2
     rw[List.getD_eq_getElem?_getD,hy] at e1
     have e1:y=x:=e1
     subst e1
     have e2':σ[j]?=some (some v):=by
      rw[List.getD_eq_getElem?_getD] at e2
      cases z:σ[j]? with
      |none=>rw[z] at e2;cases e2
      |some o=>rw[z] at e2;exact congrArg some e2
     have hmem:(y,NameKind.free)∈scope.names:=by
      exact PySem.mem_of_lookup hf
     obtain⟨m,hn,hl⟩:=I3.loc
     have hv:Vis X.env.scope y:=.inr (hfree _ hmem rfl)
     obtain⟨u,ru,lk⟩:=hl j y v hy e2' hv
     refine⟨u,ru,.inr ⟨Aax hf,?_⟩⟩
     rcases lk with ⟨k1,_⟩|⟨_,c,hcc,hz⟩
     .rcases hfree _ hmem rfl with k2|k2 <;> (have k2:X.env.kindOf y=_:=k2;rw[k1] at k2;cases k2)
     .obtain⟨c',hc'⟩:=Ow (cells:=X.env.cells) scope.names [] y hmem
      have ec:c=c':=Option.some.inj (hcc.symm.trans (cellIn y c' hc'))
      rw[←ec] at hc'
      obtain⟨oc,ho,hd⟩:=hz
      exact⟨c,hc',oc,old c oc ho,hd⟩
  .obtain⟨v,o,ho,hd⟩:=I3.cell x c (cellIn x c e)
   exact⟨v,o,old c o ho,hd⟩
  .show upd H2 s2.heap.objs.size (.lst []) C=none
   rw[←hC];exact I3.hok.fresh (Nat.le_refl _)
  .show (List.replicate own.length (none:Option V) ++ cap.map fun j=>σ.getD j none).length=(own ++ cap.map fun j=>X.N.getD j "").length
   simp
 have fpC:∀{H':Hp},(∀b∈fp,H' b=none)->∀b∈fp,V6 (X.comp scope own cap C s3 (upd H2 s2.heap.objs.size (.lst [])) fp) [] H' b:=fun hn b hb=>
  ⟨hn b hb,(by obtain⟨o,e,_⟩:=fp3 b hb;exact ltC e),fun z=>(List.mem_cons.mp (I3.stkSub b z)).elim (fpX b hb).2.1 (fpX b hb).2.2.1,.inl hb,fun x c e=>(fpX b hb).2.2.2.2.1 x c (cellIn x c e),fun p hp=>absurd (show p∈([]:List (Addr×Obj)) ++ [] from hp) (by simp)⟩
 have loop:codeAny (model X.prog X.w) X.A (.compLoop (.ListComp elt [⟨tg,iter,ifs,0⟩] scope pos) 0 (.ref it) (.ref s2.heap.objs.size) (compEnvC scope (J1 X.env.cells scope.names []) C X.env))
   (compPost (model X.prog X.w) X.A X.xe use Q' (.ref s2.heap.objs.size) C) { s3 with heap:=h₁,toks:=s3.toks+([]:List (Str×Value)).length }:=by
  refine Aay (fun n s'=>∃i acc σ' H',Inv (X.comp scope own cap C s3 (upd H2 s2.heap.objs.size (.lst [])) fp) [] σ' H' s'∧tn i s'.heap∧(∀b∈fp,H' b=none)∧H' s2.heap.objs.size=some (.lst acc)∧W i n acc σ' H') ?_ m0
   ⟨0,[],_,_,I4,T.keep _ _ _ st3 fun b _ o e=>old b o e,fun b hb=>(fpX b hb).1,Bo,w0⟩
  rintro n s5 ⟨i,acc,σ5,H5,I5,st5,fr5,hD5,w5⟩
  rcases turn i n acc σ5 H5 w5 hD5 with ⟨stop,qn⟩|⟨go,step⟩
  .refine thn (T.done (X.comp scope own cap C s3 (upd H2 s2.heap.objs.size (.lst [])) fp) rfl rfl rfl hc i [] s5 σ5 H5 _ I5 (fpC fr5) st5 stop) fun r s6 ⟨hr,I6⟩=>?_
   subst hr
   obtain⟨m,hn,_⟩:=id I6.loc
   have hCs:X.s₀.heap.objs.size≤C:=by rw[←hC];exact I3.sz
   have ltS:∀{b:Addr} {o:Obj},s3.heap.get? b=some o->b≠C:=ltC
   refine fin _ C s6 H5 m (fun h' hsb=>?_) hn ⟨I6.free,?_,?_,.inr hCs,?_,?_⟩ qn
   rotate_left
   .obtain⟨_,⟨o,_,_,ho,_⟩,_⟩:=I3.loc
    exact(ltS ho).symm
   .intro z
    obtain⟨o',e1⟩:=I3.base.there C _ (I3.ok.funs.mem z).2.choose_spec.1 (fun w=>I3.ok.exfs C w z)
    exact ltS e1 rfl
   .intro x c e
    obtain⟨_,o,ho,_⟩:=I3.cell x c e
    exact ltS ho
   .intro p hp
    exact ltS (I3.pin p hp).1
   have neC:∀{b:Addr} {o:Obj},s3.heap.get? b=some o->b≠C:=ltC
   have B:=I6.base
   refine I3.call' (s':={ s6 with heap:=h' }) (ch:=fp) I6.os ⟨fun b o e n hb hx=>?_,fun b o e n hb hx=>?_,B.free,fun b o e hx=>?_,B.tups,B.frzs,B.tbls⟩ (fun a u e=>?_) I6.bare fun b hb=>⟨(fpX b hb).2.2.2.1,(fpX b hb).2.1,(fpX b hb).2.2.2.2.1,(fpX b hb).2.2.2.2.2⟩
   .exact(hsb.2 b (neC e)).trans (B.keep b o e n hb hx)
   .obtain⟨sl,e1⟩:=B.slot b o e n hb hx
    exact⟨sl,(hsb.2 b (neC e)).trans e1⟩
   .obtain⟨o',e1⟩:=B.there b o e hx
    exact⟨o',(hsb.2 b (neC e)).trans e1⟩
   .refine(I6.hok a u e).stay (fun b v hb z=>(hsb.2 b ?_).trans z) (fun _ z=>z) fun _ _ z=>z
    rintro rfl
    have f0:H5 b=none:=I6.free
    rcases hb with rfl|hb
    .rw[f0] at e;cases e
    .rw[f0] at hb;cases hb
  .refine thn (T.item (X.comp scope own cap C s3 (upd H2 s2.heap.objs.size (.lst [])) fp) rfl rfl rfl hc i [] s5 σ5 H5 _ I5 (fpC fr5) st5 go) fun r s6 ⟨u,hr,h6⟩=>?_
   subst hr
   refine thn h6 fun _ s7 ⟨x,H7,I7,r7,y7,st7,fr7⟩=>?_
   have I7':=I7.pinned (fpC fr7) (T.obj _ _ st7)
   refine thn (hg _ _ _ _ _ s7 σ5 H7 x u _ I7' r7 (step x H7 y7)) fun _ s8 ⟨σ8,H8,I8,q8⟩=>?_
   refine thn (ht _ _ _ _ _ s8 σ8 H8 _ I8 q8) fun b s9 ⟨H9,I9,q9⟩=>?_
   have again:∀{s':Shared} {H':Hp} {acc':List V} {m':Nat},Inv (X.comp scope own cap C s3 (upd H2 s2.heap.objs.size (.lst [])) fp) ([] ++ V7 fp s7.heap) σ8 H' s'->H' s2.heap.objs.size=some (.lst acc')->m' < n->W (i+1) m' acc' σ8 H'->
     ∃m,m < n∧∃i acc σ' H',Inv (X.comp scope own cap C s3 (upd H2 s2.heap.objs.size (.lst [])) fp) [] σ' H' s'∧tn i s'.heap∧(∀b∈fp,H' b=none)∧H' s2.heap.objs.size=some (.lst acc)∧W i m acc σ' H':=fun {s' H' acc' m'} J hD hm hw=>by
    refine⟨m',hm,i+1,acc',σ8,H',J.unpinned,T.keep _ _ _ st7 fun b hb o e=>(J.pin (b,o) (List.mem_append_right _ (List.mem_append_right _ (Jz hb e)))).1,fun b hb=>?_,hD,hw⟩
    obtain⟨o,e,d⟩:=T.obj _ _ st7 b hb
    exact(J.pin (b,o) (List.mem_append_right _ (List.mem_append_right _ (Jz hb e)))).2.1
   cases b with
   |false=>
    rw[if_neg Bool.false_ne_true] at q9 ⊢
    obtain⟨hD9,m',hm,hw⟩:=q9
    exact again I9 hD9 hm hw
   |true=>
    rw[if_pos rfl] at q9 ⊢
    refine thn (he _ _ _ _ _ s9 σ8 H9 _ I9 q9) fun uy s10 ⟨y,H10,I10,r10,hD10,hl10,m',hm,hw⟩=>?_
    refine thn (Y5 (X:=X.comp scope own cap C s3 (upd H2 s2.heap.objs.size (.lst [])) fp) _ s10 σ8 H10 (.ref s2.heap.objs.size) [y] (.ref s2.heap.objs.size) [uy]
     (fun _ H'=>H'=upd H10 s2.heap.objs.size (.lst (acc ++ [y]))) I10 rfl (.cons r10 .nil) ⟨_,acc,y,rfl,rfl,hD10,hl10,rfl⟩) fun _ s11 ⟨_,H11,I11,_,e11⟩=>?_
    subst e11
    exact again I11 Bo hm hw
 exact codeAny_compStart_list loop (T.self _ 0 _ _ _ (T.keep _ _ _ st3 fun b _ o e=>old b o e) loop)
theorem Ap3 {X:Cx} {elt iter tg:Expr} {ifs:List Expr} {scope:Scope} {pos:Pos} {wi:TI} {g:TG} {tt:TT} {te:TE} {own:List Str} {cap:List Nat} {es:Scope} (hc:X.calm=true) (hE:X.env.scope=es)
  (hi:PI X tg iter wi) (hg:∀C s H ex,PG (X.comp scope own cap C s H ex) tg g) (ht:∀C s H ex,PTs (X.comp scope own cap C s H ex) ifs tt) (he:∀C s H ex,PE (X.comp scope own cap C s H ex) elt te)
  (hcap:∀j∈cap,∃x,X.N[j]?=some x∧scope.names.lookup x=some .free) (hkind:scope.kind=.function:=by rfl) (hcell:∀y∈scope.names,y.2≠.cell:=by decide)
  (hnames:∀y∈scope.names,y.2=.local->scope.names.lookup y.1=some .local:=by decide)
  (hfree':∀y∈scope.names,y.2=.free->(es.names.lookup y.1=some .cell∨es.names.lookup y.1=some .free):=by decide +kernel) (hs:∀x,foldedSetIterable iter X.env x=pure x:=by intro _;rfl) :
  PE X (.ListComp elt [⟨tg,iter,ifs,0⟩] scope pos) (Zb wi g tt te own cap):=by
 intro pins s σ H Q I h
 rw[eval_ListComp]
 exact Zc (use:=none) hc hE hi hg ht he hcap hkind hcell hnames hfree' hs I h fun D C s6 H5 m J hn _ qn=>⟨m,hn,fun h' hsb=>⟨.ref D,H5,J h' hsb,rfl,qn⟩⟩
theorem Ap4 {X:Cx} {elt iter tg:Expr} {ifs:List Expr} {scope:Scope} {pos spos py:Pos} {y:Str} {i:Nat} {wi:TI} {g:TG} {tt:TT} {te:TE} {own:List Str} {cap:List Nat} {es:Scope} (hc:X.calm=true) (hE:X.env.scope=es)
  (hi:PI X tg iter wi) (hg:∀C s H ex,PG (X.comp scope own cap C s H ex) tg g) (ht:∀C s H ex,PTs (X.comp scope own cap C s H ex) ifs tt) (he:∀C s H ex,PE (X.comp scope own cap C s H ex) elt te)
  (hcap:∀j∈cap,∃x,X.N[j]?=some x∧scope.names.lookup x=some .free) (hkind:scope.kind=.function) (hcell:∀y∈scope.names,y.2≠.cell)
  (hnames:∀y∈scope.names,y.2=.local->scope.names.lookup y.1=some .local)
  (hfree':∀y∈scope.names,y.2=.free->(es.names.lookup y.1=some .cell∨es.names.lookup y.1=some .free)) (hs:∀x,foldedSetIterable iter X.env x=pure x)
  (hy:PG X (.Name y py) (K8 i)) (hsw:swapsWith (.ListComp elt [⟨tg,iter,ifs,0⟩] scope pos) (some (.Name y py)) spos.line X.env=pure true) :
  PS X (.Assign [.Name y py] (.ListComp elt [⟨tg,iter,ifs,0⟩] scope pos) spos) (Apf (Zb wi g tt te own cap) (K8 i)):=by
 intro pins s σ H D I h
 rw[exec_Assign_Name_used _ _ _ _ hsw]
 refine wpAny_bind (wpAny_standAt (wpAny_bind ?_))
 show wpAny _ X.A (do let _←comprehension (.ListComp elt [⟨tg,iter,ifs,0⟩] scope pos) scope X.env _ (newList []) false (eval iter X.env) (some (assign (.Name y py) X.env))) _ _ s
 refine wpAny_bind (wpAny_mono (Zc (Q':=fun _ s'=>SP X pins D .next s') hc hE hi hg ht he hcap hkind hcell hnames hfree' hs I h fun D' C s6 H5 m J hn fp qn=>?_) (fun _ s' q=>wpAny_pure (wpAny_pure q)) fun _ _ z=>z)
 show wpAny _ _ (assign (.Name y py) X.env (.ref D')) _ _ _
 have I6:Inv X pins σ H5 s6:=J s6.heap ⟨rfl,fun _ _=>rfl⟩
 obtain⟨oC,es',ep',hoC,hdC,rC⟩:=id hn
 have nc:∀v,oC.data≠.cell v:=fun v z=>by rw[hdC] at z;cases z
 have I6p:=I6.pinned (fp:=[C]) (fun b hb=>by obtain rfl:=List.mem_singleton.mp hb;exact fp) (fun b hb=>by obtain rfl:=List.mem_singleton.mp hb;exact⟨oC,hoC,nc⟩)
 refine thn (hy _ s6 σ H5 (.ref D') (.ref D') _ I6p rfl qn) fun _ s7 ⟨σ7,H7,I7,q7⟩=>?_
 have pC:=I7.pin (C,oC) (List.mem_append_right _ (List.mem_append_right _ (Jz (List.mem_singleton.mpr rfl) hoC)))
 have hC7:s7.heap.get? C=some oC:=pC.1
 have I7:=I7.unpinned
 refine⟨m,⟨oC,es',ep',hC7,hdC,rC⟩,fun h' hsb=>⟨σ7,H7,?_,q7⟩⟩
 have neC:∀{b:Addr} {u:HO},H7 b=some u->b≠C:=fun q=>Bt q pC.2.1
 refine I7.step (s:=s7) (g':=s7.gens) (d':=s7.drawn) (t':=s7.toks) (h':=h') (ch:=[C]) (fun b hb=>by obtain rfl:=List.mem_singleton.mp hb;exact⟨fp.2.2.2.1,fp.2.1,fp.2.2.2.2.1,fp.2.2.2.2.2⟩)
  (fun b o _ _ hb q _=>(hsb.2 b (fun z=>hb (List.mem_singleton.mpr z))).trans q) (fun b o _ _ hb q _=>⟨o.slots,(hsb.2 b (fun z=>hb (List.mem_singleton.mpr z))).trans q⟩) (fun _ _ _ _ q=>q)
  (fun b o hb q=>⟨o,(hsb.2 b (fun z=>hb (List.mem_singleton.mpr z))).trans q⟩) (fun _ _ q=>q) (fun _ _ _ q=>q) (fun b ps q=>⟨#[],by rw[Array.append_empty];exact q⟩) (fun m' hm=>?_) (fun a u q=>?_) I7.bare
 .obtain⟨o,e1,e2,ho,r⟩:=hm
  exact⟨o,e1,e2,(hsb.2 _ (fun z=>fp.2.1 z.symm)).trans ho,r⟩
 .refine(I7.hok a u q).stay (fun b v hb z=>(hsb.2 b ?_).trans z) (fun _ z=>z) fun _ _ z=>z
  rcases hb with rfl|hb
  .exact neC q
  .exact neC hb
mutual
inductive DV (H:Hp):V->PyData->Prop
 |non:DV H .non .none
 |bl (b:Bool):DV H (.bl b) (.bool b)
 |int (i:Int):DV H (.int i) (.int i)
 |str (x:Str):DV H (.str x) (.str x)
 |lst {a:Addr} {vs:List V} {ds:List PyData}:H a=some (.lst vs)->DVs H vs ds->DV H (.ref a) (.list ds)
 |tup {a:Addr} {vs:List V} {ds:List PyData}:H a=some (.tup vs)->DVs H vs ds->DV H (.ref a) (.tuple ds)
 |dct {a:Addr}:H a=some (.dK [])->DV H (.ref a) (.dict [])
inductive DVs (H:Hp):List V->List PyData->Prop
 |nil:DVs H [] []
 |cons {v:V} {d:PyData} {vs:List V} {ds:List PyData}:DV H v d->DVs H vs ds->DVs H (v::vs) (d::ds)
end
section
variable {X:Cx} {pins:List (Addr×Obj)} {σ:St} {H:Hp} {s:Shared}
mutual
theorem DV.reads (I:Inv X pins σ H s):∀{v:V} {d:PyData} {u:Value},DV H v d->RelV v u->∃as,Reads s.heap u d as
 |_,_,_,.non,r=>by cases r;exact⟨_,.none⟩
 |_,_,_,.bl b,r=>by cases r;exact⟨_,.bool b⟩
 |_,_,_,.int i,r=>by obtain⟨t,rfl⟩:=r;exact⟨_,.int i t⟩
 |_,_,_,.str x,r=>by obtain⟨t,rfl⟩:=r;exact⟨_,.str x t⟩
 |_,_,_,.lst h q,r=>by
  cases r
  obtain⟨_,its,n,rv,e⟩:=I.hok _ _ h
  obtain⟨as,ra⟩:=DVs.reads I q rv
  exact⟨_,.list e rfl rfl (by simpa using ra)⟩
 |_,_,_,.tup h q,r=>by
  cases r
  obtain⟨_,its,rv,o,e,c,n,d⟩:=I.hok _ _ h
  obtain⟨as,ra⟩:=DVs.reads I q rv
  exact⟨_,.tuple e c d (by simpa using ra)⟩
 |_,_,_,.dct h,r=>by
  cases r
  obtain⟨_,_,vs,rv,o,es,ep,e,x,d,_,p,_⟩:=I.hok _ _ h
  cases rv
  have z:es.toList=[]:=by
   revert p
   generalize es.toList=l
   intro p
   cases p
   rfl
  exact⟨_,.dict e x.1 d (by rw[z];exact .nil) (by rw[z];exact .nil)⟩
theorem DVs.reads (I:Inv X pins σ H s):∀{vs:List V} {ds:List PyData} {us:List Value},DVs H vs ds->Vals vs us->∃as,ReadsAll s.heap us ds as
 |_,_,_,.nil,.nil=>⟨_,.nil⟩
 |_,_,_,.cons h q,.cons r t=>by
  obtain⟨as,ra⟩:=DV.reads I h r
  obtain⟨bs,rb⟩:=DVs.reads I q t
  exact⟨_,.cons ra rb⟩
end
end
def Bbs:R2:=fun x y H Q=>∃d e,DV H x d∧DV H y e∧SeqAt.shaped d=true∧SeqAt.shaped e=true∧Q (.bl (PyData.eqv d e)) H
def Bbt:R2:=fun x y H Q=>∃d e,DV H x d∧DV H y e∧SeqAt.shaped d=true∧SeqAt.shaped e=true∧Q (.bl (!PyData.eqv d e)) H
section
variable {X:Cx}
theorem Avs (hu:X.A.units+64 < cLine):OpR X (compareOp .Eq) Bbs:=by
 intro pins s σ H x y v u Q I rx ry h
 obtain⟨d,e,hd,he,sd,se,q⟩:=h
 obtain⟨as,ra⟩:=hd.reads I rx
 obtain⟨bs,rb⟩:=he.reads I ry
 exact eq_dataH ra rb sd se hu ⟨.bl _,H,I,rfl,q⟩
theorem Avt (hu:X.A.units+64 < cLine):OpR X (compareOp .NotEq) Bbt:=by
 intro pins s σ H x y v u Q I rx ry h
 obtain⟨d,e,hd,he,sd,se,q⟩:=h
 obtain⟨as,ra⟩:=hd.reads I rx
 obtain⟨bs,rb⟩:=he.reads I ry
 exact ne_dataH ra rb sd se hu ⟨.bl _,H,I,rfl,q⟩
variable {e:Expr} {es:List Expr} {d:PyData} {ds:List PyData} {pos:Pos}
end
structure Yk (K:PySem.W.Frag) (C:Addr):Prop where
 cls:(PySem.W.clsIn K C).isSome=true
 ga:PySem.W.findIn K (.ref C) "__getattribute__"=some (some (.builtin "BaseException.__getattribute__"))
 gn:PySem.W.findIn K (.ref C) "__getattr__"=some none
 cl:PySem.W.findIn K (.ref C) "__class__"=some (some (.builtin "object.__class__"))
 mb:PySem.W.mroIn K C (.type "BaseException")=some true
 mo:PySem.W.mroIn K C (.type "object")=some true
section
variable {prog:Program} {w:World} {A:Around} {E:Value->Shared->Prop} {h:Heap} {g:Array GenState} {d:Drawn} {t:Nat} {os:OsState} {a C:Addr} {o:Obj} {K:PySem.W.Frag}
open PySem.W in
theorem Afn {R:Result->Shared->Prop} (KX:K.In h) (F1:Yk K C) (hx:h.get? a=some o) (hc:o.cls=.ref C) (hq:R (.ok (.ret (.ref C))) ⟨h,g,d,t,os⟩) :
  codeAny (model prog w) A (.call (.builtin "getset_descriptor.__get__") ⟨[.builtin "object.__class__",.ref a,.ref C],[]⟩) R ⟨h,g,d,t,os⟩:=by
 have hT5:(⟨h,g,d,t,os⟩:Shared).TypeIs (.builtin "object.__class__") "getset_descriptor":=F.typeOf_object_class
 have L8:Looks (model prog w) h (isSubtype (.ref C) (.type (".".intercalate ("object.__class__".cutAt '.').dropLast))) true:=by rw[F.owner_object_class];exact looks_mroIn KX F1.mo
 refine codeAny_call_builtin F.slot_gs_get.plain F.entry_gs_get (F.slot_gs_get.check _ _ _ _ _ _ _ _ hT5 (F.args_gs_get _ _ _) ?_)
 repeat (any_goals (first|assumption|(with_reducible refine wpAny_loadPart_at hx ?_;rw[hc])|with_reducible refine L8.at ?_|wp_step))
 refine⟨Code.quiet_builtin _ (by decide +kernel),codeAny_builtin F.entry_object_class ?_⟩
 repeat (any_goals (first|assumption|(with_reducible refine wpAny_loadPart_at hx ?_;rw[hc])|wp_step))
open PySem.W in
theorem Aaz {M:Model} {nameV:Value} {Q:Unit->Shared->Prop} (KX:K.In h) (F1:Yk K C) (hx:h.get? a=some o) (hc:o.cls=.ref C) (hq:Q () ⟨h,g,d,t,os⟩) :
  wpAny M A (checkBuiltinCall "BaseException.__getattribute__" ⟨[.ref a,nameV],[]⟩) Q E ⟨h,g,d,t,os⟩:=by
 have hk:builtinKind "BaseException.__getattribute__"=some .slot:=by decide +kernel
 have hsplit:splitId "BaseException.__getattribute__"=some ("BaseException","__getattribute__"):=by decide +kernel
 have L8:Looks M h (isSubtype (.ref C) (.type "BaseException")) true:=looks_mroIn KX F1.mb
 have ha:=F.args_bexc_ga (.ref a) nameV
 simp only[checkBuiltinCall,hk,hsplit]
 refine wpAny_bind ?_
 .unfold isInstance
  repeat (first|(with_reducible refine wpAny_loadPart_at hx ?_;rw[hc])|with_reducible refine L8.at ?_|wp_step)
  exact hq
open PySem.W in
theorem Aa0 {tk:Tok} {Q:Fin->Shared->Prop} (KX:K.In h) (F1:Yk K C) (hx:h.get? a=some o) (hc:o.cls=.ref C) (hq:Q (.done (.ret (.ref C))) ⟨h,g,d,t,os⟩) :
  wpAny (model prog w) A (Builtin.«object.__getattribute__» ⟨[.ref a,.str "__class__" tk],[]⟩) Q E ⟨h,g,d,t,os⟩:=by
 have hT5:(⟨h,g,d,t,os⟩:Shared).TypeIs (.builtin "object.__class__") "getset_descriptor":=F.typeOf_object_class
 have L4:Looks (model prog w) h (typeLookup (.ref C) "__class__") (some (.builtin "object.__class__")):=looks_findIn KX F1.cl
 have f5:=F.typeOf_object_class
 have f6:=F.slot_gs_get.lookup
 have f7:=F.slot_gs_set.lookup
 repeat (any_goals (first|assumption|(with_reducible refine wpAny_loadPart_at hx ?_;rw[hc])|with_reducible refine L4.at ?_|wp_step))
 refine Afn KX F1 hx hc ?_
 repeat (any_goals (first|assumption|wp_step))
open PySem.W in
theorem Ajh {tk:Tok} {fill expr:Bool} {Q:Value->Shared->Prop} (KX:K.In h) (F1:Yk K C) (hx:h.get? a=some o) (hc:o.cls=.ref C) (hq:Q (.ref C) ⟨h,g,d,t,os⟩) :
  wpAny (model prog w) A (getAttrBy (.ref a) (.str "__class__" tk) fill expr) Q E ⟨h,g,d,t,os⟩:=by
 have f3:=F.attr_ValueError.ga.bind (.ref a)
 have hx0:(expr&&onTheHeap (Value.builtin "BaseException.__getattribute__"))=false:=by cases expr <;> rfl
 have hx2:(Value.builtin "BaseException.__getattribute__"==Value.builtin "object.__getattribute__")=false:=by decide +kernel
 have hx1:(onTheHeap (Value.ref C)&&Value.builtin "BaseException.__getattribute__"==Value.builtin "object.__getattribute__")=false:=by rw[hx2];rfl
 have L1:Looks (model prog w) h (typeLookup (.ref C) "__getattribute__") (some (.builtin "BaseException.__getattribute__")):=looks_findIn KX F1.ga
 have L2:Looks (model prog w) h (typeLookup (.ref C) "__getattr__") none:=looks_findIn KX F1.gn
 repeat (any_goals (first|assumption|(with_reducible refine wpAny_loadPart_at hx ?_;rw[hc])|with_reducible refine L1.at ?_|with_reducible refine L2.at ?_|wp_step))
 refine codeAny_call_builtin F.attr_ValueError.ga.plain F.entry_bexc_ga (Aaz KX F1 hx hc (Aa0 KX F1 hx hc ?_))
 repeat (any_goals (first|assumption|wp_step))
open PySem.W in
theorem Ac2 {Q:Option Value->Shared->Prop} (KX:K.In h) (F1:Yk K C) (hx:h.get? a=some o) (hc:o.cls=.ref C) (hq:Q (some (.ref C)) ⟨h,g,d,t+1,os⟩) :
  wpAny (model prog w) A (getAttr? (.ref a) "__class__") Q E ⟨h,g,d,t,os⟩:=by
 unfold getAttr? getAttrBy?
 repeat (any_goals (first|assumption|with_reducible apply Ajh KX F1 hx hc|wp_step))
open PySem.W in
theorem Alx (F1:Yk K C):KitX K (.ref a) (.ref C) (fun h=>∃o vs,h.get? a=some o∧o.cls=.ref C∧o.data=.fields vs) where
 ty:=fun _ _ _ ⟨o,_,h1,h2,_⟩=>h2 ▸ (Looks.ld h1).andThen .now
 it:=fun _ _ X _=>by
  obtain⟨cdD,hcD⟩:=Option.isSome_iff_exists.mp F1.cls
  unfold clsIn at hcD
  split at hcD
  .rename_i c' d' cd' sl' ho
   intro A' Q' E' s' k q
   unfold isType loadHead
   exact wpAny_bind (wpAny_loadPart (k _ _ (X _ _ ho)) (wpAny_pure q))
  .cases hcD
 ne:=fun h tp dd its n sl X htp=>by
  obtain⟨cdD,hcD⟩:=Option.isSome_iff_exists.mp F1.cls
  refine Bool.eq_false_iff.mpr fun q=>?_
  have e:C=tp:=Value.ref.inj (beq_iff_eq.mp q)
  subst e
  unfold clsIn at hcD
  split at hcD
  .rename_i c' d' cd' sl' ho
   have z:=(X _ _ ho).symm.trans htp
   cases z
  .cases hcD
 ca:=fun {_ _ _ _ _ s} X ⟨o,_,h1,h2,_⟩ k=>by obtain⟨h,g,d,t,os⟩:=s;exact Ac2 X F1 h1 h2 k
end
inductive TyX (K:PySem.W.Frag) (H:Hp):V->Value->Prop
 |of {x:V} {t:Value}:R8 K H x t->TyX K H x t
 |exc {a C:Addr}:H a=some (Aav a (.ref C))->Yk K C->TyX K H (.ref a) (.ref C)
section
variable {X:Cx} {pins:List (Addr×Obj)} {σ:St} {H:Hp} {s:Shared}
theorem Ap5 {a C:Addr} (I:Inv X pins σ H s) (e:H a=some (Aav a (.ref C))):∃o vs,s.heap.get? a=some o∧o.cls=.ref C∧o.data=.fields vs:=by
 obtain⟨p,_,_⟩:=(show Dc X.prog X.w H s.heap a (Aav a (.ref C)) from I.hok a _ e)
 exact p
def Aji:V->Option Value
 |.ty n=>some (.type n)
 |.ref a=>some (.ref a)
 |_=>none
theorem Aly {c:V} {cv u:Value} (h:Aji c=some cv) (r:RelV c u):u=cv:=by
 cases c <;> simp[Aji] at h <;> subst h <;> exact r
theorem Alz:Gw X (.builtin "isinstance") (fun xs H Q=>∃x c cv t b,xs=[x,c]∧TyX X.K H x t∧Aji c=some cv∧PySem.W.kitOne X.K t cv=some b∧Q (.bl b) H):=by
 intro pins s σ H xs us Q I r h
 obtain⟨x,c,cv,t,b,rfl,ty,hc,hk,q⟩:=h
 obtain⟨u,v,rfl,ru,rv⟩:=vals2 r
 obtain rfl:=Aly hc rv
 have fin:∀tk,EP X pins σ Q (.bool b) { s with toks:=tk }:=fun tk=>⟨.bl b,H,I.tok tk,rfl,q⟩
 cases ty with
 |of ty=>exact Ai5 I ru ty hk fin
 |exc e k=>
  cases ru
  exact PySem.W.kia_one (Alx k) I.kIn (Ap5 I e) hk (fun z=>nomatch z) fin
end
def Its (x:Str):It:=⟨fun i _=>i < x.cps.size,fun i H v H'=>H'=H∧∃c,x.cps[i]?=some c∧v=.str ⟨#[c]⟩,fun i _=>i=x.cps.size⟩
theorem Ac3 {P:Program} {w:World} {K:PySem.W.Frag} {tg:Expr} (it:Addr) (ty:String) (x:Str) (t:Tok) (hty:["enumerate","zip","dict_itemiterator","dict_reverseitemiterator","odict_iterator","itertools.zip_longest","itertools.pairwise"].contains ty=false)
  (W:∀A:Around,A.handled=none->Walks P w A it [it] [it] x.cps.size (SignAt x) (fun i h=>h.IsStrIter it ty x t i)) (hself:∀(A:Around) (i:Nat) (s:Shared) (Q:Value->Shared->Prop) (E:Value->Shared->Prop),s.heap.IsStrIter it ty x t i->Q (.ref it) s->wpAny (model P w) A (pyIter (.ref it)) Q E s) :
  Turn P w K tg (Its x) [it] it (fun i h=>h.IsStrIter it ty x t i) where
 mem:=by simp
 obj:=fun i h st b hb=>by
  have e:b=it:=by simpa using hb
  subst e
  obtain⟨o,e,c,d⟩:=st
  exact⟨o,e,fun v z=>by rw[d] at z;cases z⟩
 keep:=fun i h h' st k=>let ⟨o,e,r⟩:=st;⟨o,k it (by simp) o e,r⟩
 item:=by
  intro X hP hw hK hc i pins s σ H E I hf st hg
  subst hP hw hK
  obtain⟨f0,f1,f2,f3,f4,f5⟩:=hf it (by simp)
  refine(W X.A (I.ok.hd hc)).item i s _ _ hg st fun v h' tk hv st' kk=>?_
  obtain⟨c,u,hcp,rfl⟩:=hv
  have I1:Inv X pins σ H { s with heap:=h',toks:=tk }:=I.turned (fun b o hb e=>kk b o (by simpa using hb) e) f0 f1 f3 f4 f5
  obtain⟨o,e,oc,d⟩:=id st'
  exact⟨_,rfl,Ag8 (s:={ s with heap:=h',toks:=tk }) e oc d hty ⟨.str ⟨#[c]⟩,H,I1,⟨u,rfl⟩,⟨rfl,c,hcp,rfl⟩,st',fun b hb=>(hf b hb).1⟩⟩
 done:=by
  intro X hP hw hK hc i pins s σ H E I hf st hg
  subst hP hw hK
  have hg:i=x.cps.size:=hg
  subst hg
  obtain⟨f0,f1,f2,f3,f4,f5⟩:=hf it (by simp)
  refine(W X.A (I.ok.hd hc)).done s _ _ st fun h' tk kk=>⟨rfl,I.turned (fun b o hb e=>kk b o (by simpa using hb) e) f0 f1 f3 f4 f5⟩
 self:=hself
def Azi (ts:TE):TI:=fun σ H R=>ts σ H fun v H1=>∃x,v=.str x∧R (Its x) H1
theorem Avu {X:Cx} {tg e:Expr} {ts:TE} (he:PE X e ts):PI X tg e (Azi ts):=by
 intro pins s σ H R I h
 refine thn (he pins s σ H _ I h) fun v s1 ⟨z,H1,I1,r1,q1⟩=>?_
 obtain⟨x,rfl,q⟩:=q1
 obtain⟨t,rfl⟩:=r1
 have I2:∀o,Inv X pins σ H1 { s1 with heap:=s1.heap.push o }:=fun o=>I1.kept (t':=s1.toks) fun b u e=>Heap.get?_push_of_some _ e
 have fp:∀b∈[s1.heap.objs.size],V6 X pins H1 b:=fun b hb=>by
  have e:b=s1.heap.objs.size:=by simpa using hb
  subst e
  exact I1.fpOk (Nat.le_refl _) (I1.hok.fresh (Nat.le_refl _))
 cases ha:x.cps.all (· < 128)
 .refine wpAny_pyIter_wide ha ⟨s1.heap.objs.size,[s1.heap.objs.size],_,_,H1,rfl,I2 _,Ac3 _ "str_iterator" x t (by decide) (fun A hA=>Walks.strWide hA _ x t) (fun _ _ _ _ _ st h=>wpAny_pyIter_striter_wide st h),⟨_,Heap.get?_push_size _ rfl,rfl,rfl⟩,fp,q⟩
 .refine wpAny_pyIter_ascii ha ⟨s1.heap.objs.size,[s1.heap.objs.size],_,_,H1,rfl,I2 _,Ac3 _ "str_ascii_iterator" x t (by decide) (fun A hA=>Walks.strAscii hA _ x t) (fun _ _ _ _ _ st h=>wpAny_pyIter_striter_ascii st h),⟨_,Heap.get?_push_size _ rfl,rfl,rfl⟩,fp,q⟩
structure Al0 (J:It) (xs:List V) (ok:Hp->Prop):Prop where
 go:∀i H,i < xs.length->ok H->J.go i H
 yld:∀i H x H',i < xs.length->J.yld i H x H'->ok H->H'=H∧xs[i]?=some x
 stop:∀H,ok H->J.stop xs.length H
theorem Ac4 {J:It} {xs:List V} {ok:Hp->Prop} (S:Al0 J xs ok) {g:TG} {tt:TT} {te:TE} {H1:Hp} {Q:VK} {σ0:St} {D:Addr} (hD:H1 D=none) (Sl:St->Prop) (h0:Sl σ0) (p:V->Bool) (f:V->V) (hz:xs.length≤sizeLine)
  (hok:∀acc,ok (upd H1 D (.lst acc)))
  (hs:∀(i:Nat) (x:V) (σ:St) (acc:List V) (A:St->V->Hp->Prop) (B:St->Hp->Prop),xs[i]?=some x->Sl σ->(∀σ2,Sl σ2->p x=true->A σ2 (f x) (upd H1 D (.lst acc)))->(∀σ2,Sl σ2->p x=false->B σ2 (upd H1 D (.lst acc)))->
   g x σ (upd H1 D (.lst acc)) fun σ2 H2=>tt σ2 H2 fun b H3=>if b=true then te σ2 H3 fun y H4=>A σ2 y H4 else B σ2 H3)
  (hq:Q (.ref D) (upd H1 D (.lst ((xs.filter p).map f)))) :
  Za J g tt te D σ0 H1 Q:=by
 refine⟨fun i m acc σ H=>m=xs.length - i∧i≤xs.length∧Sl σ∧acc=((xs.take i).filter p).map f∧H=upd H1 D (.lst acc),⟨xs.length,by simp,Nat.zero_le _,h0,by simp,rfl⟩,?_⟩
 rintro i m acc σ H ⟨rfl,hi,sl,ha,rfl⟩ _
 by_cases hlt:i < xs.length
 .refine .inr ⟨S.go i _ hlt (hok _),fun x H'' y=>?_⟩
  obtain⟨rfl,hx⟩:=S.yld i _ x H'' hlt y (hok _)
  have hlen:acc.length < sizeLine:=by
   rw[ha,List.length_map]
   refine Nat.lt_of_le_of_lt (List.length_filter_le _ _) ?_
   rw[List.length_take]
   omega
  refine hs i x σ acc _ _ hx sl (fun σ2 s2 hp=>⟨Bo,hlen,xs.length - (i+1),by omega,rfl,hlt,s2,?_,?_⟩) (fun σ2 s2 hp=>⟨Bo,xs.length - (i+1),by omega,rfl,hlt,s2,?_,rfl⟩)
  .rw[ha,take_succ_filter p xs i x hx,if_pos hp,List.map_append];rfl
  .rw[Ao3]
  .rw[ha,take_succ_filter p xs i x hx,hp];simp
 .have e:i=xs.length:=by omega
  subst e
  rw[List.take_length] at ha
  subst ha
  exact .inl ⟨S.stop _ (hok _),hq⟩
theorem Avv {σ:St} {H:Hp} {R:Bool->Hp->Prop} (h:R true H):Vm σ H R:=h
theorem Ac5 {J:It} {xs:List V} {ok:Hp->Prop} (S:Al0 J xs ok) {g:TG} {te:TE} {H1:Hp} {Q:VK} {σ0:St} {D:Addr} (hD:H1 D=none) (Sl:St->Prop) (h0:Sl σ0) (f:V->V) (hz:xs.length≤sizeLine)
  (hok:∀acc,ok (upd H1 D (.lst acc)))
  (hs:∀(i:Nat) (x:V) (σ:St) (acc:List V) (A:St->V->Hp->Prop) (R:St->Hp->Prop),xs[i]?=some x->Sl σ->(∀σ2,Sl σ2->A σ2 (f x) (upd H1 D (.lst acc)))->(∀σ2 H2,te σ2 H2 (fun y H4=>A σ2 y H4)->R σ2 H2)->g x σ (upd H1 D (.lst acc)) R)
  (hq:Q (.ref D) (upd H1 D (.lst (xs.map f)))):Za J g Vm te D σ0 H1 Q:=by
 refine Ac4 S hD Sl h0 (fun _=>true) f hz hok (fun i x σ acc A B hx hsl hA _=>?_) ?_
 .exact hs i x σ acc A _ hx hsl (fun σ2 s2=>hA σ2 s2 rfl) fun σ2 H2 h=>Avv (Aau h)
 .rw[List.filter_eq_self.mpr (fun _ _=>rfl)]
  exact hq
section
variable {X:Cx}
theorem Afo:OpR X (binaryOp .Mult) (fun x y H Q=>∃z n,x=.str z∧y=.int n∧z.length≤16∧0≤n∧n≤1048576∧Q (.str (Txt.mul z n)) H):=by
 intro pins s σ H x y v u Q I rx ry h
 obtain⟨z,n,rfl,rfl,h1,h2,h3,q⟩:=h
 obtain⟨t,rfl⟩:=rx
 obtain⟨t',rfl⟩:=ry
 exact SB.mul (mulOk_of 16 1048576 h1 (by omega) (by omega) (by decide) (by decide)) fun t' k=>⟨.str _,H,I.tok _,⟨_,rfl⟩,q⟩
theorem Aa1:∀{ys:List Str} {us:List Value},Vals (ys.map V.str) us->StrsAre us ys
 |[],_,h=>by cases h;exact .nil
 |y::r,_,h=>by
  cases h with
  |cons h1 h2=>
   obtain⟨t,rfl⟩:=h1
   exact .cons y t (Aa1 h2)
theorem Ap6:MtR X "str.join" (fun x vs H Q=>∃z p ys,x=.str z∧vs=[.ref p]∧H p=some (.lst (ys.map V.str))∧(ys.map (·.length)).sum+ys.length * z.length≤16777216∧Q (.str (Txt.join z ys)) H):=by
 intro pins s σ H x vs v us Q I rx rv h
 obtain⟨z,p,ys,rfl,rfl,hp,hz,q⟩:=h
 obtain⟨t,rfl⟩:=rx
 obtain⟨u,rfl,ru⟩:=rv.one
 cases ru
 obtain⟨_,its,n,r,e⟩:=(show Dc X.prog X.w H s.heap p (.lst (ys.map V.str)) from I.hok p _ hp)
 exact join_list (D:=p) (items:=its.toArray) ⟨_,e,rfl,_,rfl⟩ (by simpa using Aa1 r) hz fun t' k=>⟨.str _,H,I.tok _,⟨_,rfl⟩,q⟩
theorem range_all (bs:List Bool):(List.range bs.length).all (fun i=>bs.getD i false)=bs.all id:=by
 rw[Bool.eq_iff_iff,List.all_eq_true,List.all_eq_true]
 constructor
 .intro h x hx
  obtain⟨i,hi,rfl⟩:=List.getElem_of_mem hx
  have:=h i (List.mem_range.mpr hi)
  rw[List.getD_eq_getElem?_getD,List.getElem?_eq_getElem hi] at this
  exact this
 .intro h i hi
  have hi:=List.mem_range.mp hi
  rw[List.getD_eq_getElem?_getD,List.getElem?_eq_getElem hi]
  exact h _ (List.getElem_mem hi)
theorem Al1 (hc:X.calm=true):Gw X (.builtin "all") (fun xs H Q=>∃p,∃bs:List Bool,xs=[.ref p]∧H p=some (.lst (bs.map V.bl))∧Q (.bl (bs.all id)) H):=by
 intro pins s σ H xs us Q I r h
 obtain⟨p,bs,rfl,hp,q⟩:=h
 obtain⟨u,rfl,ru⟩:=vals1 r
 cases ru
 obtain⟨_,its,n,rv,e⟩:=(show Dc X.prog X.w H s.heap p (.lst (bs.map V.bl)) from I.hok p _ hp)
 have hl:s.heap.IsList p its.toArray:=⟨_,e,rfl,_,rfl⟩
 have hlen:its.length=bs.length:=by rw[←rv.length,List.length_map]
 refine call_all_walk (wpAny_pyIter_list hl ?_)
 have hne:p≠s.heap.objs.size:=Nat.ne_of_lt (Heap.lt_size e)
 have hnew:∀o b u,s.heap.get? b=some u->(s.heap.push o).get? b=some u:=fun o b u z=>Heap.get?_push_of_some _ z
 refine⟨s.heap.objs.size,[s.heap.objs.size,p],[s.heap.objs.size],its.toArray.size,_,_,fun i=>bs.getD i false,rfl,Walks.list (A:=X.A.in1) (show X.A.in1.handled=none from I.ok.hd hc) _ p hne its.toArray,⟨⟨_,Heap.get?_push_size _ rfl,rfl,rfl⟩,?_⟩,fun i v s' Q' E' hv hq=>?_,fun h' tk k=>?_⟩
 .exact⟨_,hnew _ _ _ e,rfl,_,rfl⟩
 .have hv:its[i]?=some v:=by simpa using hv
  cases eb:bs[i]? with
  |none=>
   have:=List.getElem?_eq_none_iff.mp eb
   have:=(List.getElem?_eq_some_iff.mp hv).1
   omega
  |some b=>
   obtain⟨u,hu,ru⟩:=rv.get (i:=i) (x:=.bl b) (by rw[List.getElem?_map,eb];rfl)
   rw[hv] at hu;cases hu
   cases ru
   have z:bs.getD i false=b:=by rw[List.getD_eq_getElem?_getD,eb];rfl
   have hq:Q' (bs.getD i false) s':=hq
   rw[z] at hq
   exact wpAny_truthy_bool hq
 .refine⟨.bl _,H,I.kept (t':=tk) fun b u z=>k b u (fun m=>?_) (hnew _ _ _ z),rfl,?_⟩
  .have:b=s.heap.objs.size:=by simpa using m
   subst this
   exact absurd (Heap.lt_size z) (Nat.lt_irrefl _)
  .have z:(List.range its.toArray.size).all (fun i=>bs.getD i false)=bs.all id:=by
    rw[List.size_toArray,hlen]
    exact range_all bs
   rw[z]
   exact q
end
structure Ci (K:PySem.W.Frag) (mg:Str->Option Value) (x:Str) (st:Stmt) (ps:List Str) (f:Addr) (fd:FuncData):Prop where
 fn:Fun K x x st f fd
 gl:mg x=some (.ref f)
 bd:Binds K fd ps []
section
variable {P:Program} {w:World} {K:PySem.W.Frag} {mg:Str->Option Value} {base:Heap}
theorem Fun.okX {cm:Bool} {x qual:Str} {st:Stmt} {f:Addr} {fd:FuncData} {N ps:List Str} {k:Nat} {sp:Sp} (F:Fun K x qual st f fd) (S:Bg N ps (Ad st)) (len:∀vs H Q E,sp vs H Q E->vs.length=ps.length)
  (hbody:∀(cdv:Value) (A:Around) (outer:List Env) (s:Shared) (H:Hp) (vs:List V) (Q:VK) (E:XK),Ht k (A.deeper (envOfC qual (Ad st) s.heap.objs.size f cdv)) cm->sp vs H Q E->
   ∃t,PSs (P0 (CXo P w) P w K mg base N qual (Ad st) f cdv A outer s H E cm) (An st) t∧t { nx:=fun _ H'=>Q .non H',rt:=Q } (start N vs) H):Ib P w K mg base (CXo P w) (k+1) f fd ps sp cm:=by
 obtain⟨oc,od,dV,kV,doc,pm,an,cdv,ct,osl,rfl,lk,hcd⟩:=F.ex
 exact Ay4 lk hcd S len fun A outer s H vs Q E hr hsp=>hbody cdv A outer s H vs Q E hr hsp
theorem Ahe {X:Cx}:Fw (CXo P w) X (fun _=>E0):=fun _ _ _ _ _ _ _ ⟨_,_,_,_,_,z⟩=>z.elim
end
theorem Avw {X:Cx} {CX:CXT} {k:Nat} {f:Addr} {fd:FuncData} {ps:List Str} {sp:Sp} {E:St->XK} {x:Str} {st:Stmt} {p pos:Pos} {e:Expr} {es:List Expr} {t:TA} {cm:Bool} (D:Ci X.K X.mg x st ps f fd)
  (F:Ib X.prog X.w X.K X.mg X.base CX k f fd ps sp cm) (hr:Ht k X.A cm) (hx:Fw CX X E) (ha:PA X (e::es) t) (hg:Gl X x:=by rfl)
  (hdb:(x==("__debug__":Str))=false:=by decide) (he:starEach (e::es) X.env=(false,eval e X.env)::starEach es X.env:=by rfl) (hpl:(backTo pos (starEach es X.env)).any (·.1)=false:=by rfl) :
  PE X (.Call (.Name x p) (e::es) [] pos) (Afl sp [] E t):=Ac1 F hr hg D.gl D.fn.kp D.bd .nil hx ha hdb he hpl
theorem pbi {X:Cx} {x:Str} {id:String} {r:List V->Hp->VK->Prop} {p pos:Pos} {e:Expr} {es:List Expr} {t:TA} (hc:Gw X (.builtin id) r) (hm:X.mg x=none) (hv:bootBuiltins x=some (.builtin id)) (ha:PA X (e::es) t) (hg:Gl X x:=by rfl) (hn:x≠"__name__":=by decide) (hdb:(x==("__debug__":Str))=false:=by decide)
  (he:starEach (e::es) X.env=(false,eval e X.env)::starEach es X.env:=by rfl) (hpl:(backTo pos (starEach es X.env)).any (·.1)=false:=by rfl) :
  PE X (.Call (.Name x p) (e::es) [] pos) (tCB r t):=Ali hc hg hm hv ha hn hdb he hpl
theorem Ap7 (a b:Value):checkTypeCall "enumerate" ⟨[a],[("start",b)]⟩=pure ():=by kernel_rfl
theorem Avx (a b:Value):checkBuiltinCall "enumerate.__new__" ⟨[.type "enumerate",a],[("start",b)]⟩=pure ():=by kernel_rfl
theorem Ap8 (obj a b:Value):argsOk "object.__init__" ⟨[obj,a],[("start",b)]⟩:=by kernel_rfl
section
variable {prog:Program} {w:World} {A:Around} {E:Value->Shared->Prop} {s:Shared}
theorem Ap9 {T newId initId:String} {Bn Bi:Builtin} {args:List Value} {kw:List (Str×Value)} {S:PySem.Spec} {Q Q₁:Value->Shared->Prop} (ft:TypeCalled T newId initId)
  (c1:checkTypeCall T ⟨args,kw⟩=pure ()) (c2:checkBuiltinCall newId ⟨.type T::args,kw⟩=pure ())
  (e1:entryFor table newId=some Bn) (e2:entryFor table initId=some Bi) (g:Meets (Bn ⟨.type T::args,kw⟩) S) (h:S A.in1 (wants Q₁ E) s)
  (nx:∀obj s₁,Q₁ obj s₁->s₁.TypeIs obj T∧argsOk initId ⟨obj::args,kw⟩∧∃Si,Meets (Bi ⟨obj::args,kw⟩) Si∧Si A.in1 (wants (fun r s₂=>r=.none∧Q obj s₂) E) s₁) :
  wpAny (model prog w) A (call (.type T) args kw) Q E s:=by
 obtain⟨c,tl,m1⟩:=ft.mro
 have m2:=ft.made
 have m3:=ft.sub
 have m4:=ft.notType
 have m5:=ft.canCreate
 refine wpAny_call (codeAny_of_tree (show wpAny _ _ (callAny (.type T) _) _ _ _ from wpAny_pure ⟨Code.quiet_builtin _ (by decide +kernel),codeAny_builtin F.entry_type_call ?_⟩))
 rw[Around.under_plain (weight_type_call_type T args kw) (units_type_call_type T args kw)]
 repeat (any_goals (first|assumption|wp_step))
 refine codeAny_mono (codeAny_call_builtin ft.plain e1 (wpAny_of_eq c2 (g prog w A.in1 _ s h))) fun r s₁ hr=>?_
 match r,hr with
 |.error e,hr=>exact hr
 |.ok .next,hr=>exact hr.elim
 |.ok .brk,hr=>exact hr.elim
 |.ok .cont,hr=>exact hr.elim
 |.ok (.ret obj),hr=>
  obtain⟨n1,n2,Si,n3,n4⟩:=nx _ _ hr
  have n5:=ft.init.lookup
  have n6:=ft.init.bind obj
  repeat (any_goals (first|assumption|wp_step))
  refine codeAny_mono (codeAny_call_builtin ft.init.plain e2 (ft.init.check _ _ _ _ _ _ _ _ n1 n2 (n3 prog w A.in1 _ s₁ n4))) fun r₂ s₂ hq=>?_
  match r₂,hq with
  |.error e,hq=>exact hq
  |.ok .next,hq=>exact hq.elim
  |.ok .brk,hq=>exact hq.elim
  |.ok .cont,hq=>exact hq.elim
  |.ok (.ret r),hq=>
   obtain⟨rfl,q⟩:=hq
   repeat (any_goals (first|assumption|wp_step))
theorem Avy {T newId:String} {self a b:Value} (hl:typeLookup (.type T) "__init__"=pure (some (.builtin "object.__init__"))) (hm:Bind.madeBy (.type T)=pure (some newId)) (hne:(some newId != some "object.__new__")=true) :
  Meets (Builtin.«object.__init__» ⟨[self,a],[("start",b)]⟩) (fun _ R s=>s.TypeIs self T∧R (.ok (.ret .none)) s):=by
 refine Meets.of_wp fun prog w A R s ⟨hT,hq⟩=>?_
 repeat (any_goals (first|assumption|wp_step))
 exact⟨_,rfl,hq⟩
end
set_option maxHeartbeats 2000000 in
theorem Al2 (x:Str) (t u:Tok) :
  Meets (Builtin.«enumerate.__new__» ⟨[.type "enumerate",.str x t],[("start",.int 1 u)]⟩) (fun _ R s=>
   R (.ok (.ret (.ref (s.heap.push { cls:=.type (strIterType x),data:=.fields #[.str x t,.int 0 0] }).objs.size))) { s with heap:=(s.heap.push { cls:=.type (strIterType x),data:=.fields #[.str x t,.int 0 0] }).push { cls:=.type "enumerate",data:=.fields #[.none,.bool false,.ref s.heap.objs.size,rawInt 1,.none,.none] } }):=
 .of_wp fun prog w A R s h=>by
  obtain⟨hp,g,d,tk,os⟩:=s
  have e0:=sub_enumerate
  wp_walk
  refine wpAny_stack_any fun st=>wpAny_pure ?_
  split
  .rename_i c _ _ _ _ _
   cases (c==Value.type "enumerate") <;> (wp_walk using wpAny_pyIter_strU;exact⟨_,rfl,h⟩)
  .wp_walk using wpAny_pyIter_strU
   exact⟨_,rfl,h⟩
section
variable {prog:Program} {w:World} {A:Around} {E:Value->Shared->Prop} {s:Shared}
theorem Aqa {x:Str} {t u:Tok} {Q:Value->Shared->Prop}
  (h:∀h':Heap,IsEnum h' (s.heap.objs.size+1) s.heap.objs.size 1 .none->h'.IsStrIter s.heap.objs.size (strIterType x) x t 0->(∀b o,s.heap.get? b=some o->h'.get? b=some o)->Q (.ref (s.heap.objs.size+1)) { s with heap:=h' }) :
  wpAny (model prog w) A (call (.type "enumerate") [.str x t] [("start",.int 1 u)]) Q E s:=by
 refine Ap9 (Q₁:=fun obj s1=>s1.TypeIs obj "enumerate"∧Q obj s1) F.called_enumerate (Ap7 _ _) (Avx _ _) F.entry_enumerate_new F.entry_object_init (Al2 x t u) ?_
  fun obj s1 hq=>⟨hq.1,Ap8 _ _ _,_,Avy F.called_enumerate.init.lookup F.called_enumerate.made (by decide),hq.1,rfl,hq.2⟩
 have hz:(s.heap.push { cls:=.type (strIterType x),data:=.fields #[.str x t,.int 0 0] }).objs.size=s.heap.objs.size+1:=Heap.size_push ..
 have he:=Heap.get?_push_size (s.heap.push { cls:=.type (strIterType x),data:=.fields #[.str x t,.int 0 0] }) (o:={ cls:=.type "enumerate",data:=.fields #[.none,.bool false,.ref s.heap.objs.size,rawInt 1,.none,.none] }) rfl
 rw[hz] at he
 show _∧_
 rw[hz]
 exact⟨⟨_,he,rfl⟩,h _ he ⟨_,Heap.get?_push_of_some _ (Heap.get?_push_size _ rfl),rfl,rfl⟩ fun b o q=>Heap.get?_push_of_some _ (Heap.get?_push_of_some _ q)⟩
theorem Aqb {M:Model} {pos:Pos} {T:String} {x:Sem Value} {rest:List (Bool×Sem Value)} {kws:List (Option Str×Sem Value)} {Q:Value->Shared->Prop} (hall:kws.all (·.1.isSome)=true)
  (hno:(((false,x)::rest).any (·.1)||kws.any (·.1.isNone))=false)
  (h:wpAny M A (spliced ((false,x)::rest)) (fun vs s1=>wpAny M A (evalAll (kws.map (·.2))) (fun zs s2=>wpAny M A (call (.type T) vs ((kws.filterMap (·.1)).zip zs)) Q E s2) E s1) E s) :
  wpAny M A (callWith pos (.type T) [] ((false,x)::rest) kws) Q E s:=by
 unfold callWith
 refine wpAny_bind (wpAny_holding (wpAny_mono (evalArgs_kw (Q:=fun a s2=>wpAny M A (call (.type T) a.pos a.kw) Q E s2) hall h) (fun a s1 q=>wpAny_bind (wpAny_standAt ?_)) fun _ _ q=>q))
 simp only[hno]
 refine wpAny_bind (wpAny_pure ?_)
 exact wpAny_bind (wpAny_mono q (fun r s2 hr=>wpAny_bind (wpAny_holding (wpAny_point (wpAny_pure hr)))) fun _ _ q=>q)
end
theorem Al3 {prog:Program} {w:World} {A:Around} {it:Addr} {fp:List Addr} {n:Nat} {P:Nat->Value->Prop} {St:Nat->Heap->Prop} (D:Draws prog w A it fp n P St) :
  Draws prog w A it fp (n+1) (fun i v=>P (i - 1) v) (fun i h=>1≤i∧St (i - 1) h) where
 live:=fun i h st=>D.live _ _ st.2
 frame:=fun i h h' st k=>⟨st.1,D.frame _ _ _ st.2 k⟩
 item:=fun i s Q E hi st hQ=>by
  obtain⟨h1,st⟩:=st
  refine D.item (i - 1) s Q E (by omega) st fun x h' tk hP hs sb=>hQ x h' tk hP ⟨by omega,?_⟩ sb
  rw[show i+1 - 1=i - 1+1 by omega]
  exact hs
 done:=fun s Q E st hE=>D.done s Q E (by simpa using st.2) hE
def Ite (x:Str):It:=⟨fun i _=>i < x.cps.size,fun i H v H'=>∃c T,x.cps[i]?=some c∧H T=none∧v=.ref T∧H'=upd H T (.tup [.int ((i:Int)+1),.str ⟨#[c]⟩]),fun i _=>i=x.cps.size⟩
theorem Zd {P:Program} {w:World} {K:PySem.W.Frag} {elts:List Expr} {kt:Nat} {tpos:Pos} (e it:Addr) (ty:String) (x:Str) (t:Tok) (hei:e≠it)
  (D:∀A:Around,A.handled=none->Draws P w A it [it] x.cps.size (fun i v=>∃c u,x.cps[i]?=some c∧v=.str ⟨#[c]⟩ u) (fun i h=>h.IsStrIter it ty x t i)) :
  Turn P w K (.Tuple elts kt tpos) (Ite x) [e,it] e (fun i h=>(∃old,IsEnum h e it ((i+1:Nat):Int) old)∧h.IsStrIter it ty x t i) where
 mem:=by simp
 obj:=fun i h st b hb=>by
  obtain⟨⟨old,he⟩,o,ho,hc,hd⟩:=st
  rcases List.mem_cons.mp hb with rfl|hb
  .exact⟨_,he,fun v z=>by
    have z':Data.fields _=Data.cell v:=z
    cases z'⟩
  .obtain rfl:b=it:=by simpa using hb
   exact⟨o,ho,fun v z=>by rw[hd] at z;cases z⟩
 keep:=fun i h h' st k=>by
  obtain⟨⟨old,he⟩,o,ho,r⟩:=st
  exact⟨⟨old,k e (by simp) _ he⟩,o,k it (by simp) o ho,r⟩
 item:=by
  intro X hP hw hK hc i pins s σ H E I hf st hg
  subst hP hw hK
  have W:=WalksT.enumerateD (A:=X.A) (Al3 (D X.A.in1 (show X.A.in1.handled=none from I.ok.hd hc))) e hei (by simpa using hei) (by simp)
  obtain⟨⟨old,he⟩,hs⟩:=st
  have hfe:=hf e (by simp)
  have hfi:=hf it (by simp)
  refine W.item (i+1) s _ _ (Nat.succ_lt_succ hg) ⟨⟨old,he⟩,Nat.succ_le_succ (Nat.zero_le _),by simpa using hs⟩ fun T vals h' tk hv hT hIs hM hk=>?_
  obtain⟨tk',xv,⟨c,u,hcp,rfl⟩,rfl⟩:=hv
  have hTw:=W.apart _ _ _ hM
  refine⟨_,rfl,W.go elts kt tpos (i+1) T { s with heap:=h',toks:=tk } _ _ hM fun h2 st2 hk2=>?_⟩
  have hcp:x.cps[i]?=some c:=by simpa using hcp
  have hk3:∀b o,b∉[e,it]->s.heap.get? b=some o->h2.get? b=some o:=fun b o hb q=>hk2 b o hb (hk b o hb q)
  have hTn:H T=none:=I.hok.fresh hT
  have hT2:IsTup h2 T #[.int ((i+1:Nat):Int) tk',.str ⟨#[c]⟩ u]:=by
   obtain⟨o,ho,r⟩:=hIs
   exact⟨o,hk2 T o hTw ho,r⟩
  have nH:∀b u,H b=some u->b∉[e,it]:=fun b u q hb=>by
   rcases List.mem_cons.mp hb with rfl|hb
   .rw[hfe.1] at q;cases q
   .obtain rfl:b=it:=by simpa using hb
    rw[hfi.1] at q;cases q
  have ltT:∀{b:Addr} {o:Obj},s.heap.get? b=some o->b≠T:=fun q=>Nat.ne_of_lt (Nat.lt_of_lt_of_le (Heap.lt_size q) hT)
  refine⟨.ref T,upd H T (.tup [.int ((i:Int)+1),.str ⟨#[c]⟩]),?_,rfl,⟨c,T,hcp,hTn,rfl,rfl⟩,⟨st2.1,by simpa using st2.2.2⟩,fun b hb=>?_⟩
  .show Inv X pins σ (upd H T (.tup [.int ((i:Int)+1),.str ⟨#[c]⟩])) { s with heap:=h2,gens:=s.gens,drawn:=s.drawn,toks:=tk }
   refine I.step (s:=s) (g':=s.gens) (d':=s.drawn) (ch:=[e,it]) (fun b hb=>?_) (fun b o _ _ hc q _=>hk3 b o hc q) (fun b o _ _ hc q _=>⟨o.slots,hk3 b o hc q⟩) (fun b o _ q n=>by rw[Bb (ltT q)];exact n)
    (fun b o hc q=>⟨o,hk3 b o hc q⟩) (fun b xs q=>by rw[Bb (Bt q hTn)];exact q) (fun b o u q=>by rw[Bb (Bt q hTn)];exact q) (fun b ps q=>⟨#[],by rw[Bb (Bt q hTn),q];simp⟩) (fun m hm=>?_) (fun b u q=>?_) I.bare
   .rcases List.mem_cons.mp hb with rfl|hb
    .exact⟨hfe.2.2.2.1,hfe.2.1,hfe.2.2.2.2.1,hfe.2.2.2.2.2⟩
    .obtain rfl:b=it:=by simpa using hb
     exact⟨hfi.2.2.2.1,hfi.2.1,hfi.2.2.2.2.1,hfi.2.2.2.2.2⟩
   .obtain⟨o,es,ep,ho,r⟩:=hm
    refine⟨o,es,ep,hk3 _ o (fun hb=>?_) ho,r⟩
    rcases List.mem_cons.mp hb with q|hb
    .exact hfe.2.1 q.symm
    .exact hfi.2.1 (show X.env.locals=it by simpa using hb).symm
   .by_cases hb:b=T
    .subst hb
     rw[Bo] at q
     cases q
     exact⟨(show 2≤sizeLine by decide),_,.cons ⟨tk',rfl⟩ (.cons ⟨u,rfl⟩ .nil),hT2⟩
    .rw[Bb hb] at q
     refine(I.hok b u q).stay (fun d v hd z=>hk3 d v ?_ z) (fun d z=>by rw[Bb (Bt z hTn)];exact z) fun d xs z=>by rw[Bb (Bt z hTn)];exact z
     rcases hd with rfl|hd
     .exact nH d u q
     .exact nH d _ hd
  .have hbT:b≠T:=fun q=>hTw (q ▸ hb)
   rw[Bb hbT]
   exact(hf b hb).1
 done:=by
  intro X hP hw hK hc i pins s σ H E I hf st hg
  subst hP hw hK
  have hg:i=x.cps.size:=hg
  subst hg
  have W:=WalksT.enumerateD (A:=X.A) (Al3 (D X.A.in1 (show X.A.in1.handled=none from I.ok.hd hc))) e hei (by simpa using hei) (by simp)
  obtain⟨⟨old,he⟩,hs⟩:=st
  have hfe:=hf e (by simp)
  have hfi:=hf it (by simp)
  refine W.done s _ _ ⟨⟨old,he⟩,Nat.succ_le_succ (Nat.zero_le _),by simpa using hs⟩ fun h' tk hk=>⟨rfl,?_⟩
  have nH:∀b u,H b=some u->b∉[e,it]:=fun b u q hb=>by
   rcases List.mem_cons.mp hb with rfl|hb
   .rw[hfe.1] at q;cases q
   .obtain rfl:b=it:=by simpa using hb
    rw[hfi.1] at q;cases q
  refine I.step (g':=s.gens) (d':=s.drawn) (ch:=[e,it]) (fun b hb=>?_) (fun b o _ _ hc q _=>hk b o hc q) (fun b o _ _ hc q _=>⟨o.slots,hk b o hc q⟩) (fun b o _ q n=>n)
   (fun b o hc q=>⟨o,hk b o hc q⟩) (fun b xs q=>q) (fun b o u q=>q) (fun b ps q=>⟨#[],by rw[q];simp⟩) (fun m hm=>?_) (fun b u q=>?_) I.bare
  .rcases List.mem_cons.mp hb with rfl|hb
   .exact⟨hfe.2.2.2.1,hfe.2.1,hfe.2.2.2.2.1,hfe.2.2.2.2.2⟩
   .obtain rfl:b=it:=by simpa using hb
    exact⟨hfi.2.2.2.1,hfi.2.1,hfi.2.2.2.2.1,hfi.2.2.2.2.2⟩
  .obtain⟨o,es,ep,ho,r⟩:=hm
   refine⟨o,es,ep,hk _ o (fun hb=>?_) ho,r⟩
   rcases List.mem_cons.mp hb with q|hb
   .exact hfe.2.1 q.symm
   .exact hfi.2.1 (show X.env.locals=it by simpa using hb).symm
  .refine(I.hok b u q).stay (fun d v hd z=>hk d v ?_ z) (fun _ z=>z) fun _ _ z=>z
   rcases hd with rfl|hd
   .exact nH d u q
   .exact nH d _ hd
 self:=fun _ _ _ _ _ st h=>by
  obtain⟨⟨old,he⟩,_⟩:=st
  exact wpAny_pyIter_enum he h
def At4 (ts:TE):TI:=fun σ H R=>ts σ H fun v H1=>∃x,v=.str x∧R (Ite x) H1
theorem Aqc {X:Cx} {elts:List Expr} {kt j:Nat} {tpos p pos cpos kpos:Pos} {e:Expr} {ts:TE} (hg:Gl X "enumerate") (hm:X.mg "enumerate"=none) (he:PE X e ts) (hs:starEach [e] X.env=[(false,eval e X.env)]:=by rfl) :
  PI X (.Tuple elts kt tpos) (.Call (.Name "enumerate" p) [e] [⟨some "start",.Constant (.int 1) j cpos,kpos⟩] pos) (At4 ts):=by
 intro pins s σ H R I h
 have ha:PA X [e] (Acs ts Alh):=Vl he Afh hs
 have hk:PK X [⟨some "start",.Constant (.int 1) j cpos,kpos⟩] (Acs (tC (.int 1)) Alh):=Apn Ak5 Avi
 refine wpAny_Call_Name_kw (Py I hg hm boot_enumerate ?_)
 have ha1:=ha pos pins s σ H (fun vs H1=>match vs with|[v]=>(∃x,v=.str x∧R (Ite x) H1)|_=>False) I h
 rw[hs] at ha1 ⊢
 refine Aqb rfl rfl (thn ha1 fun us s1 ⟨vs,H1,I1,r,q⟩=>thn (hk pos pins s1 σ H1 (fun zs H2=>zs=[.int 1]∧H2=H1) I1 ⟨rfl,rfl⟩) fun ws s2 ⟨zs,H2,I2,rz,e1,e2⟩=>?_)
 subst e1 e2
 obtain⟨z,rfl,u,rfl⟩:=vals1 rz
 match vs,q,r with
 |[v],⟨x,hx,q⟩,r=>
  subst hx
  obtain⟨y,rfl,t,rfl⟩:=vals1 r
  refine Aqa fun h' e1 i1 k1=>wpAny_pyIter_enum e1 ?_
  have I3:Inv X pins σ H2 { s2 with heap:=h' }:=I2.kept (t':=s2.toks) k1
  have fp:∀b∈[s2.heap.objs.size+1,s2.heap.objs.size],V6 X pins H2 b:=fun b hb=>by
   have hb':s2.heap.objs.size≤b:=by
    rcases List.mem_cons.mp hb with rfl|hb
    .exact Nat.le_succ _
    .obtain rfl:b=_:=by simpa using hb
     exact Nat.le_refl _
   exact I2.fpOk hb' (I2.hok.fresh hb')
  cases ha:x.cps.all (· < 128)
  .rw[show strIterType x="str_iterator" from by unfold strIterType;rw[ha];rfl] at i1
   exact⟨_,[s2.heap.objs.size+1,s2.heap.objs.size],_,_,H2,rfl,I3,Zd _ _ "str_iterator" x t (Nat.succ_ne_self _) (fun A hA=>Draws.strWide hA _ x t),⟨⟨_,e1⟩,i1⟩,fp,q⟩
  .rw[show strIterType x="str_ascii_iterator" from by unfold strIterType;rw[ha];rfl] at i1
   exact⟨_,[s2.heap.objs.size+1,s2.heap.objs.size],_,_,H2,rfl,I3,Zd _ _ "str_ascii_iterator" x t (Nat.succ_ne_self _) (fun A hA=>Draws.strAscii hA _ x t),⟨⟨_,e1⟩,i1⟩,fp,q⟩
section
variable {X:Cx}
theorem Al4 (hc:X.calm=true):Gw X (.builtin "sum") (fun xs H Q=>∃p,∃ns:List Int,xs=[.ref p]∧H p=some (.lst (ns.map V.int))∧Q (.int ns.sum) H):=by
 intro pins s σ H xs us Q I r h
 obtain⟨p,ns,rfl,hp,q⟩:=h
 obtain⟨u,rfl,ru⟩:=vals1 r
 cases ru
 obtain⟨_,its,n,rv,e⟩:=(show Dc X.prog X.w H s.heap p (.lst (ns.map V.int)) from I.hok p _ hp)
 have hi:IntsAre its ns:=intsAre_of rv
 obtain⟨zs,hx⟩:=hi.allInts.items
 have hl:s.heap.IsList p (intItems zs):=hx ▸ (⟨_,e,rfl,_,rfl⟩:s.heap.IsList p its.toArray)
 refine sum_intListG (I.ok.hd hc) hl fun h' tk t' hk=>⟨.int ns.sum,H,I.kept (t':=tk) hk,⟨t',?_⟩,q⟩
 have e1:ns=zs.toList.map (·.1):=by
  rw[←nums_intItems,←hx]
  exact(show numsOf its.toArray.toList=ns from hi.numsOf).symm
 rw[preSum_eq,List.take_of_length_le (by simp),e1]
theorem Ajj:OpR X (compareOp .LtE) (fun x y H Q=>∃i j,x=.str i∧y=.str j∧Q (.bl (!decide (j.cps.toList < i.cps.toList))) H):=by
 intro pins s σ H x y v u Q I rx ry h
 obtain⟨i,j,rfl,rfl,q⟩:=h
 obtain⟨t,rfl⟩:=rx
 obtain⟨t',rfl⟩:=ry
 exact PySem.P.le_str (Pz I q rfl)
theorem Aqd:MtR X "str.find" (fun x vs H Q=>∃z y,x=.str z∧vs=[.str y]∧Q (.int (Txt.find z y)) H):=by
 intro pins s σ H x vs v us Q I rx rv h
 obtain⟨z,y,rfl,rfl,q⟩:=h
 obtain⟨t,rfl⟩:=rx
 obtain⟨u,rfl,t',rfl⟩:=rv.one
 exact SC.find ⟨.int _,H,I.tok _,⟨_,rfl⟩,q⟩
theorem Al5:MtR X "str.rfind" (fun x vs H Q=>∃z y,x=.str z∧vs=[.str y]∧Q (.int (Txt.rfind z y)) H):=by
 intro pins s σ H x vs v us Q I rx rv h
 obtain⟨z,y,rfl,rfl,q⟩:=h
 obtain⟨t,rfl⟩:=rx
 obtain⟨u,rfl,t',rfl⟩:=rv.one
 exact SC.rfind ⟨.int _,H,I.tok _,⟨_,rfl⟩,q⟩
theorem Al6:MtR X "str.strip" (fun x vs H Q=>∃z y,x=.str z∧vs=[.str y]∧z.length≤sizeLine∧Q (.str (Txt.stripChars z y)) H):=by
 intro pins s σ H x vs v us Q I rx rv h
 obtain⟨z,y,rfl,rfl,hz,q⟩:=h
 obtain⟨t,rfl⟩:=rx
 obtain⟨u,rfl,t',rfl⟩:=rv.one
 exact SC.stripChars (fun t' k=>⟨.str _,H,I.tok k,⟨t',rfl⟩,q⟩) hz
theorem Avz:SlR X (fun x lo hi H Q=>∃z,x=.str z∧z.length≤sizeLine∧Q (.str (Txt.slice z lo hi)) H):=by
 intro pins s σ H x v vl vu lo hi sl Q I rx hs pl pu h
 obtain⟨z,rfl,hz,q⟩:=h
 obtain⟨t,rfl⟩:=rx
 refine⟨"str",_,PySem.F.slot_str_getitem.lookup,typeIs_str _ _ _,?_⟩
 have fin:∀(l u:Option (Int×Tok)),vl=partValue l->vu=partValue u->lo=l.map (·.1)->hi=u.map (·.1)->wpAny (model X.prog X.w) X.A (getItem (.str z t) (.ref sl)) (EP X pins σ Q) X.xe s:=by
  rintro l u rfl rfl rfl rfl
  exact wpAny_getItem_str_slice (l:=l) (u:=u) (st:=none) hs rfl (post_val_or_str ⟨Nat.le_trans (Txt.slice_le z (l.map (·.1)) (u.map (·.1))) hz,fun t' k=>⟨.str _,H,I.tok k,⟨t',rfl⟩,q⟩⟩)
 cases pl with
 |none=>cases pu with
  |none=>exact fin none none rfl rfl rfl rfl
  |int j tj=>exact fin none (some (j,tj)) rfl rfl rfl rfl
 |int i ti=>cases pu with
  |none=>exact fin (some (i,ti)) none rfl rfl rfl rfl
  |int j tj=>exact fin (some (i,ti)) (some (j,tj)) rfl rfl rfl rfl
end
def Afp (sc:Scope) (x:Str):Bool:=match sc.names.lookup x with
 |some .local=>true
 |some .cell=>true
 |some .free=>true
 |_=>false
def Afq (sc:Scope) (x:Str):Bool:=match sc.names.lookup x with
 |some .local=>true
 |some .cell=>true
 |_=>false
theorem Wi {sc:Scope} {x:Str} (h:Afp sc x=true):Vis sc x:=by
 unfold Afp at h
 split at h
 .exact .inl ‹_›
 .exact .inr (.inl ‹_›)
 .exact .inr (.inr ‹_›)
 .cases h
theorem Al7 {sc:Scope} {x:Str} (h:Afq sc x=true):Loc sc x:=by
 unfold Afq at h
 split at h
 .exact .inl ‹_›
 .exact .inr ‹_›
 .cases h
section
variable {X:Cx}
theorem Ajk (K':PySem.W.Frag) (hK:X.K=K'):Gw X (.builtin "isinstance") (fun xs H Q=>∃x c cv t b,xs=[x,c]∧TyX K' H x t∧Aji c=some cv∧PySem.W.kitOne K' t cv=some b∧Q (.bl b) H):=by
 subst hK
 exact Alz
end
structure WE (X:Cx) (e:Expr) (t:TE):Prop where
 un:PE X e t
structure WT (X:Cx) (e:Expr) (t:TT):Prop where
 un:PT X e t
structure WW (X:Cx) (e:Expr) (t:TT):Prop where
 un:PW X e t
structure WA (X:Cx) (es:List Expr) (t:TA):Prop where
 un:PA X es t
structure WS (X:Cx) (st:Stmt) (t:TS):Prop where
 un:PS X st t
structure WSs (X:Cx) (sts:List Stmt) (t:TS):Prop where
 un:PSs X sts t
structure WG (X:Cx) (e:Expr) (t:TG):Prop where
 un:PG X e t
structure WI (X:Cx) (tg e:Expr) (t:TI):Prop where
 un:PI X tg e t
structure WTs (X:Cx) (es:List Expr) (t:TT):Prop where
 un:PTs X es t
structure WO (X:Cx) (e:Option Expr) (t:TO):Prop where
 un:PO X e t
structure WPs (X:Cx) (pos:Pos) (ks:List (Option Expr)) (vs:List Expr) (trs:List (TE×TE)):Prop where
 un:PPs X pos ks vs trs
section
variable {X:Cx} {x:Str} {pos pos' p apos cpos:Pos} {a b c e o k v:Expr} {es rest:List Expr} {sts:List Stmt} {st:Stmt} {ta tb tc te to tl:TE} {t:TA} {tA tB':TT} {u u':TS}
theorem kv (i:Nat) (hN:X.N[i]?=some x:=by kernel_rfl) (hv:Afp X.env.scope x=true:=by kernel_rfl) (hd:(x==("__debug__":Str))=false:=by kernel_rfl) (hcd:(x==("__classdict__":Str))=false:=by kernel_rfl) :
  WE X (.Name x pos) (Aum i):=⟨V5 hN (Wi hv) hd hcd⟩
theorem Bbu {i:Int} {j:Nat}:WE X (.Constant (.int i) j pos) (tC (.int i)):=⟨Ak5⟩
theorem kbl {i:Bool} {j:Nat}:WE X (.Constant (.bool i) j pos) (tC (.bl i)):=⟨Ayd⟩
theorem Bbv {j:Nat}:WE X (.Constant .none j pos) (tC .non):=⟨Aun⟩
theorem Bbw {i:Str} {j:Nat}:WE X (.Constant (.str i) j pos) (tC (.str i)):=⟨Auo⟩
theorem At5 {v:V} {u:Value} (hm:X.mg x=some u) (r:RelV v u) (hg:X.env.kindOf x=some .globalImplicit:=by kernel_rfl) (hd:(x==("__debug__":Str))=false:=by kernel_rfl):WE X (.Name x pos) (tC v):=⟨Ao6 hg hm r hd⟩
theorem Azj {v:V} {u:Value} (hm:X.mg x=none) (hv:bootBuiltins x=some u) (r:RelV v u) (hg:X.env.kindOf x=some .globalImplicit:=by kernel_rfl) (hn:decide (x=("__name__":Str))=false:=by kernel_rfl)
  (hd:(x==("__debug__":Str))=false:=by kernel_rfl):WE X (.Name x pos) (tC v):=⟨Ao7 hg hm hv r (of_decide_eq_false hn) hd⟩
theorem kop {op:Operator} {r:R2} (ho:OpR X (binaryOp op) r) (ha:WE X a ta) (hb:WE X b tb):WE X (.BinOp a op b pos) (tOp r ta tb):=⟨Ayr ho ha.un hb.un⟩
theorem kun {op:UnaryOp} {r:V->Hp->VK->Prop} (ho:UnR X (unaryOp op) r) (ha:WE X a ta):WE X (.UnaryOp op a pos) (tUn r ta):=⟨Ays ho ha.un⟩
theorem Bbx {op:CmpOp} {r:R2} (ho:OpR X (compareOp op) r) (ha:WE X a ta) (hb:WE X b tb) (hm:behindInMarks op b=false:=by kernel_rfl):WE X (.Compare a [op] [b] pos) (tOp r ta tb):=⟨Apk ho ha.un hb.un hm⟩
theorem Av0 {op op':CmpOp} {r r':R2} (ho:OpR X (compareOp op) r) (ho':OpR X (compareOp op') r') (ha:WE X a ta) (hb:WE X b tb) (hc:WE X c tc) (hm:lastMarks [op,op'] [b,c]=false:=by kernel_rfl):WE X (.Compare a [op,op'] [b,c] pos) (V8 r r' ta tb tc):=⟨Alc ho ho' ha.un hb.un hc.un hm⟩
theorem Bby (ha:WE X a ta) (hb:WE X (.BoolOp .And (b::rest) pos) tb):WE X (.BoolOp .And (a::b::rest) pos) (Ats ta tb):=⟨Auu ha.un hb.un⟩
theorem kor (ha:WE X a ta) (hb:WE X (.BoolOp .Or (b::rest) pos) tb):WE X (.BoolOp .Or (a::b::rest) pos) (Ayh ta tb):=⟨Ayi ha.un hb.un⟩
theorem Azk {op:BoolOp} (ha:WE X a ta):WE X (.BoolOp op [a] pos) ta:=⟨Aut ha.un⟩
theorem knot (ha:WE X a ta):WE X (.UnaryOp .Not a pos) (Atu ta):=⟨Auv ha.un⟩
theorem kif (hc:WT X c tA) (ha:WE X a ta) (hb:WE X b tb):WE X (.IfExp c a b pos) (tIf tA ta tb):=⟨Ak7 hc.un ha.un hb.un⟩
theorem kix {r:R2} (hr:IxR X r) (ha:WE X a ta) (hb:WE X b tb) (hs:Qz b:=by exact fun _ _=>rfl):WE X (.Subscript a b pos) (tOp r ta tb):=⟨Ay6 hr ha.un hb.un hs⟩
theorem Bbz (h:WA X es t):WE X (.List es pos) (Ay3 t):=⟨Avg h.un⟩
theorem Bb0 {j:Nat} (h:WA X es t):WE X (.Tuple es j pos) (Ay2 t):=⟨Avf h.un⟩
theorem kbm {T:String} {name:Str} {id:String} {r:V->List V->Hp->VK->Prop} (pa:PlainAttrs T) (slot:Slot T name id) (hty:typeOf (.builtin id)=pure (.type "method_descriptor")) (hm:MtR X id r) (ho:WE X o to) (ha:WA X (e::es) t)
  (hbase:attributeBase o name X.env (eval o X.env)=eval o X.env:=by kernel_rfl)
  (hfew:((backTo cpos (starEach (e::es) X.env)).all (fun x=>!x.1)&&(backToKw cpos (keywordEach [] X.env)).all (fun x=>x.1.isSome)&&decide ((e::es).length+([]:List Keyword).length+(if ([]:List Keyword).isEmpty then 0 else 1) < 30))=true:=by kernel_rfl)
  (hline:(apos.endLine==cpos.line)=true:=by kernel_rfl) (he:starEach (e::es) X.env=(false,eval e X.env)::starEach es X.env:=by kernel_rfl) (hpl:(backTo cpos (starEach es X.env)).any (·.1)=false:=by kernel_rfl):WE X (.Call (.Attribute o name apos) (e::es) [] cpos) (tBM X.K T r to t):=by
 exact⟨Azb pa slot hty hm ho.un ha.un hbase hfew hline he hpl⟩
theorem Aqe:WO X none Ahb:=⟨Apo⟩
theorem Aqf (h:WE X e te):WO X (some e) (At0 te):=⟨App h.un⟩
theorem Av1 {r:V->Option Int->Option Int->Hp->VK->Prop} {lo hi:Option Expr} {tl th:TO} {p2:Pos} (hr:SlR X r) (he:WE X e te) (hl:WO X lo tl) (hu:WO X hi th):WE X (.Subscript e (.Slice lo hi none p2) pos) (tSl r te tl th):=⟨Alk hr he.un hl.un hu.un⟩
theorem Av2:WPs X pos [] [] []:=⟨Apx⟩
theorem Aqg {ks:List (Option Expr)} {vs:List Expr} {trs:List (TE×TE)} (hk:WE X k ta) (hv:WE X v tb) (hr:WPs X pos ks vs trs):WPs X pos (some k::ks) (v::vs) ((ta,tb)::trs):=⟨Alr hk.un hv.un hr.un⟩
theorem Bb1 {op:CmpOp} {r:R2} (ho:OpR X (compareOp op) r) (ha:WE X a ta) (hb:WE X b tb) (hm:behindInMarks op b=false:=by kernel_rfl):WT X (.Compare a [op] [b] pos) (Ag9 (tOp r ta tb)):=⟨Apl ho ha.un hb.un hm⟩
theorem Av3 {op op':CmpOp} {r r':R2} (ho:OpR X (compareOp op) r) (ho':OpR X (compareOp op') r') (ha:WE X a ta) (hb:WE X b tb) (hc:WE X c tc) (hm:lastMarks [op,op'] [b,c]=false:=by kernel_rfl):WT X (.Compare a [op,op'] [b,c] pos) (Ag9 (V8 r r' ta tb tc)):=⟨Ald ho ho' ha.un hb.un hc.un hm⟩
theorem Bb2 (ha:WT X a tA):WT X (.UnaryOp .Not a pos) (Ayf tA):=⟨Aus ha.un⟩
theorem Bb3 (h:WE X e te) (he:∀whole,isTrue e X.env whole=(do let v←whole;standAt e.pos;holding [v] (truthy v)):=by intro _;rfl):WT X e (tB te):=⟨Aup h.un he⟩
theorem Bb4 (ha:WT X a tA) (hb:WW X (.BoolOp .And (b::rest) pos) tB'):WW X (.BoolOp .And (a::b::rest) pos) (Aye tA tB'):=⟨Aur ha.un hb.un⟩
theorem tor (ha:WT X a tA) (hb:WW X (.BoolOp .Or (b::rest) pos) tB'):WW X (.BoolOp .Or (a::b::rest) pos) (tOr tA tB'):=⟨Ayg ha.un hb.un⟩
theorem Azl (ha:WT X a tA):WW X (.BoolOp .And [a] pos) tA:=⟨Ao8 ha.un⟩
theorem Bb5 (ha:WT X a tA):WW X (.BoolOp .Or [a] pos) tA:=⟨Auq ha.un⟩
theorem tw (h:WW X a tA):WT X a tA:=⟨h.un.pt⟩
theorem Av4:WA X [] Alh:=⟨Afh⟩
theorem Aqh (ha:WE X e te) (hr:WA X es t) (hs:starEach (e::es) X.env=(false,eval e X.env)::starEach es X.env:=by kernel_rfl):WA X (e::es) (Acs te t):=⟨Vl ha.un hr.un hs⟩
theorem Av5 {CX:CXT} {n:Nat} {f:Addr} {fd:FuncData} {ps:List Str} {sp:Sp} {E:St->XK} {df:Stmt} {cm:Bool} (D:Ci X.K X.mg x df ps f fd) (F:Ib X.prog X.w X.K X.mg X.base CX n f fd ps sp cm) (hr:Ht n X.A cm) (hx:Fw CX X E) (ha:WA X (e::es) t)
  (hg:X.env.kindOf x=some .globalImplicit:=by kernel_rfl) (hdb:(x==("__debug__":Str))=false:=by kernel_rfl) (he:starEach (e::es) X.env=(false,eval e X.env)::starEach es X.env:=by kernel_rfl) (hpl:(backTo pos (starEach es X.env)).any (·.1)=false:=by kernel_rfl) :
  WE X (.Call (.Name x p) (e::es) [] pos) (Afl sp [] E t):=⟨Avw D F hr hx ha.un hg hdb he hpl⟩
theorem kbi {id:String} {r:List V->Hp->VK->Prop} (hc:Gw X (.builtin id) r) (hm:X.mg x=none) (hv:bootBuiltins x=some (.builtin id)) (ha:WA X (e::es) t) (hg:X.env.kindOf x=some .globalImplicit:=by kernel_rfl) (hn:decide (x=("__name__":Str))=false:=by kernel_rfl)
  (hdb:(x==("__debug__":Str))=false:=by kernel_rfl) (he:starEach (e::es) X.env=(false,eval e X.env)::starEach es X.env:=by kernel_rfl) (hpl:(backTo pos (starEach es X.env)).any (·.1)=false:=by kernel_rfl) :
  WE X (.Call (.Name x p) (e::es) [] pos) (tCB r t):=⟨pbi hc hm hv ha.un hg (of_decide_eq_false hn) hdb he hpl⟩
theorem Al8 {i:Nat} (nd:decide X.N.Nodup=true:=by kernel_rfl) (hi:X.N[i]?=some x:=by kernel_rfl) (hl:Afq X.env.scope x=true:=by kernel_rfl) (hf:(X.fn x||decide (X.env.scope.names.lookup x=some .local))=true:=by kernel_rfl) :
  WG X (.Name x pos) (K8 i):=⟨Apd (of_decide_eq_true nd) hi (Al7 hl) (by
 rcases Bool.or_eq_true_iff.mp hf with h|h
 .exact .inl h
 .exact .inr (of_decide_eq_true h))⟩
theorem Aqi {tg:Expr} (hm:X.mg "range"=none) (ha:WA X [a] t) (hg:X.env.kindOf "range"=some .globalImplicit:=by kernel_rfl) (hs:starEach [a] X.env=[(false,eval a X.env)]:=by kernel_rfl):WI X tg (.Call (.Name "range" p) [a] [] pos) (Aty t):=⟨Aiy hg hm ha.un hs⟩
theorem Aqj {tg:Expr} (hm:X.mg "range"=none) (ha:WA X [a,b] t) (hg:X.env.kindOf "range"=some .globalImplicit:=by kernel_rfl) (hs:starEach [a,b] X.env=[(false,eval a X.env),(false,eval b X.env)]:=by kernel_rfl) (hs2:starEach [b] X.env=[(false,eval b X.env)]:=by kernel_rfl) :
  WI X tg (.Call (.Name "range" p) [a,b] [] pos) (Atz t):=⟨Aiz hg hm ha.un hs hs2⟩
theorem Av6 {tg:Expr} (h:WE X e te):WI X tg e (Azi te):=⟨Avu h.un⟩
theorem Aqk {tg:Expr} (h:WE X e te):WI X tg e (Atx X.K te):=⟨Apg h.un⟩
theorem Av7 {tg:Expr} (h:WE X e te):WI X tg e (Ayq X.K te):=⟨Au2 h.un⟩
theorem Aql {elts:List Expr} {kt j:Nat} {tpos cpos kpos:Pos} (hm:X.mg "enumerate"=none) (he:WE X e te) (hg:X.env.kindOf "enumerate"=some .globalImplicit:=by kernel_rfl) (hs:starEach [e] X.env=[(false,eval e X.env)]:=by kernel_rfl) :
  WI X (.Tuple elts kt tpos) (.Call (.Name "enumerate" p) [e] [⟨some "start",.Constant (.int 1) j cpos,kpos⟩] pos) (At4 te):=⟨Aqc hg hm he.un hs⟩
theorem Aqm:WTs X [] Vm:=⟨Ap1⟩
theorem Aqn (h:WT X c tA):WTs X [c] tA:=⟨Ap2 h.un⟩
theorem Azm {elt iter tg:Expr} {ifs:List Expr} {scope:Scope} {wi:TI} {g:TG} {tt:TT} {te:TE} {own:List Str} {cap:List Nat} {sc:Scope} (hc:X.calm=true) (hE:X.env.scope=sc)
  (hi:WI X tg iter wi) (hg:∀C s H ex,WG (X.comp scope own cap C s H ex) tg g) (ht:∀C s H ex,WTs (X.comp scope own cap C s H ex) ifs tt) (he:∀C s H ex,WE (X.comp scope own cap C s H ex) elt te)
  (hcap:cap.all (fun j=>match X.N[j]? with|some x=>decide (scope.names.lookup x=some .free)|none=>false)=true:=by kernel_rfl) (hkind:scope.kind=.function:=by kernel_rfl) (hcell:scope.names.all (fun y=>decide (y.2≠.cell))=true:=by kernel_rfl)
  (hnames:scope.names.all (fun y=>!decide (y.2=.local)||decide (scope.names.lookup y.1=some .local))=true:=by kernel_rfl)
  (hfree:scope.names.all (fun y=>!decide (y.2=.free)||(decide (sc.names.lookup y.1=some .cell)||decide (sc.names.lookup y.1=some .free)))=true:=by kernel_rfl) (hs:∀x,foldedSetIterable iter X.env x=pure x:=by intro _;rfl) :
  WE X (.ListComp elt [⟨tg,iter,ifs,0⟩] scope pos) (Zb wi g tt te own cap):=by
 refine⟨Ap3 hc hE hi.un (fun C s H ex=>(hg C s H ex).un) (fun C s H ex=>(ht C s H ex).un) (fun C s H ex=>(he C s H ex).un) (fun j hj=>?_) hkind (fun y hy=>?_) (fun y hy hl=>?_) (fun y hy hl=>?_) hs⟩
 .have q:=List.all_eq_true.mp hcap j hj
  cases e:X.N[j]? with
  |none=>rw[e] at q;cases q
  |some x=>rw[e] at q;exact⟨x,rfl,of_decide_eq_true q⟩
 .exact of_decide_eq_true (List.all_eq_true.mp hcell y hy)
 .have q:=List.all_eq_true.mp hnames y hy
  rw[decide_eq_true hl] at q
  exact of_decide_eq_true q
 .have q:=List.all_eq_true.mp hfree y hy
  rw[decide_eq_true hl] at q
  rcases Bool.or_eq_true_iff.mp q with z|z
  .cases z
  rcases Bool.or_eq_true_iff.mp z with z|z
  .exact .inl (of_decide_eq_true z)
  .exact .inr (of_decide_eq_true z)
theorem Bb6 {i:Nat} (he:WE X e te) (nd:decide X.N.Nodup=true:=by kernel_rfl) (hi:X.N[i]?=some x:=by kernel_rfl) (hl:Afq X.env.scope x=true:=by kernel_rfl) (hs:swapsWith e (some (.Name x pos')) pos.line X.env=pure false:=by kernel_rfl)
  (hf:X.fn x=true:=by kernel_rfl):WS X (.Assign [.Name x pos'] e pos) (Apf te (K8 i)):=⟨Au0 (of_decide_eq_true nd) hi (Al7 hl) he.un hs (.inl hf)⟩
theorem Bb7 (h:WE X e te):WS X (.Return (some e) pos) (Ayl te):=⟨Aux h.un⟩
theorem Azn (h:WE X e te) (hs:swapsWith e none pos.line X.env=pure false:=by kernel_rfl):WS X (.Expr e pos) (Atv te):=⟨Ag7 h.un hs⟩
theorem sif {tc:TT} {A B:List Stmt} (hc:WT X c tc) (ha:WSs X A u) (hb:WSs X B u'):WS X (.If c A B pos) (Ayn tc u u'):=⟨Ayo hc.un ha.un hb.un⟩
theorem Azo (hu:X.A.units+1 < cLine) (ho:WE X o ta) (hi:WE X b tb) (hv:WE X v tc) (hs:swapsWith v (some (.Subscript o b pos')) pos.line X.env=pure false:=by kernel_rfl):WS X (.Assign [.Subscript o b pos'] v pos) (At3 ta tb tc):=⟨Apw hu ho.un hi.un hv.un hs⟩
theorem Av8 {E:XK} {C:Addr} (hx:Yj X.K C) (hm:X.mg x=some (.ref C)) (hc:X.calm=true) (hR:Raises X E) (ha:WA X (e::es) t) (hg:X.env.kindOf x=some .globalImplicit:=by kernel_rfl)
  (hd:(x==("__debug__":Str))=false:=by kernel_rfl) (he:starEach (e::es) X.env=(false,eval e X.env)::starEach es X.env:=by kernel_rfl) (hpl:(backTo cpos (starEach es X.env)).any (·.1)=false:=by kernel_rfl) :
  WS X (.Raise (some (.Call (.Name x p) (e::es) [] cpos)) none pos) (Alu t C E):=⟨Alv hx hg hm hc hR ha.un hd he hpl⟩
theorem Bb8 {body suite:List Stmt} {b0:Stmt} {n:Str} {C:Addr} {i:Nat} {np hpos:Pos} {tb:(St->XK)->TS} {th:TS} (hstk:X.stack=X.env::X.outer) (hfr:X.env.frame=some X.env.locals) (nd:X.N.Nodup) (hm:X.mg x=some (.ref C))
  (hb:∀(pn:List (Addr×Obj)) (xe:Value->Shared->Prop) (E:St->XK),Fw (CXo X.prog X.w) (X.tryB pn xe) E->WSs (X.tryB pn xe) body (tb E)) (hs:∀e,WSs (X.suite e) (b0::suite) th)
  (hi:X.N[i]?=some n:=by kernel_rfl) (hn:X.env.scope.names.lookup n=some .local:=by kernel_rfl) (hg:X.env.kindOf x=some .globalImplicit:=by kernel_rfl) (hd:(x==("__debug__":Str))=false:=by kernel_rfl) :
  WS X (.Try body [.ExceptHandler (some (.Name x np)) (some n) (b0::suite) hpos] [] [] pos) (Azh X.K C i tb th):=⟨Avr hstk hfr nd hi hn hg hm hd (hb:=fun pn xe E hx=>(hb pn xe E hx).un) (hs:=fun e=>(hs e).un)⟩
theorem Bb9:WSs X [] Ak8:=⟨Ao9⟩
theorem Azp (h:WS X st u) (q:WSs X sts u'):WSs X (st::sts) (Ayj u u'):=⟨Acp h.un q.un⟩
end
section
variable {P:Program} {w:World} {K:PySem.W.Frag} {mg:Str->Option Value} {base:Heap}
theorem Fun.okW {cm:Bool} {x qual:Str} {st:Stmt} {f:Addr} {fd:FuncData} {N ps:List Str} {k:Nat} {sp:Sp} (F:Fun K x qual st f fd) (S:Bg N ps (Ad st)) (len:∀vs H Q E,sp vs H Q E->vs.length=ps.length)
  (hbody:∀(cdv:Value) (A:Around) (outer:List Env) (s:Shared) (H:Hp) (vs:List V) (Q:VK) (E:XK),Ht k (A.deeper (envOfC qual (Ad st) s.heap.objs.size f cdv)) cm->sp vs H Q E->
   ∃t,WSs (P0 (CXo P w) P w K mg base N qual (Ad st) f cdv A outer s H E cm) (An st) t∧t { nx:=fun _ H'=>Q .non H',rt:=Q } (start N vs) H):Ib P w K mg base (CXo P w) (k+1) f fd ps sp cm:=
 F.okX S len fun cdv A outer s H vs Q E hr hsp=>by
  obtain⟨t,ht,q⟩:=hbody cdv A outer s H vs Q E hr hsp
  exact⟨t,ht.un,q⟩
end
open PySem.Builtin.SmallTypes in
structure Nx (P:Program) (w:World) (i l:Addr) (St:Nat->Heap->Prop) (Sc:Array Value->Heap->Prop):Prop where
 live:∀k h,St k h->∃o,h.get? i=some o∧∀v,o.data≠.cell v
 keep:∀k h h',St k h->(∀o,h.get? i=some o->h'.get? i=some o)->St k h'
 src:∀xs h h',Sc xs h->(∀o,h.get? l=some o->h'.get? l=some o)->Sc xs h'
 item:∀(A:Around) (k:Nat) (s:Shared) (xs:Array Value) (x:Value) (Q:Value->Shared->Prop) (E:Value->Shared->Prop),St k s.heap->Sc xs s.heap->xs[k]?=some x->(∀h',St (k+1) h'->Heap.SameBut i s.heap h'->Q x { s with heap:=h' })->
  wpAny (model P w) A (nextOf (.ref i)) Q E s
 done:∀(A:Around) (k:Nat) (s:Shared) (xs:Array Value) (Q:Value->Shared->Prop) (E:Value->Shared->Prop),A.handled=none->St k s.heap->Sc xs s.heap->xs[k]?=none->
  (∀h' e,Heap.ExtBut i s.heap h'->(∃o,h'.get? e=some o∧o.cls=.type "StopIteration")->E (.ref e) { s with heap:=h' })->wpAny (model P w) A (nextOf (.ref i)) Q E s
section
variable {prog:Program} {w:World} {A:Around} {E:Value->Shared->Prop} {s:Shared}
open PySem.Builtin.SmallTypes in
theorem Aqo {it l:Addr} {k:Nat} {xs:Array Value} {x:Value} {Q:Value->Shared->Prop} (st:s.heap.IsTupleIter it l k) (hl:s.heap.IsTuple l xs) (hx:xs[k]?=some x)
  (go:∀h',h'.IsTupleIter it l (k+1)->Heap.SameBut it s.heap h'->Q x { s with heap:=h' }):wpAny (model prog w) A (nextOf (.ref it)) Q E s:=by
 obtain⟨oi,hi,ci,di⟩:=id st
 obtain⟨ot,ht,_,n,dt⟩:=hl
 unfold nextOf
 refine wpAny_bind (wpAny_callSpecial?_slot (name:=Str.ofString "__next__") st.typeIs F.slot_tuple_iterator_next (wpAny_call_entry F.slot_tuple_iterator_next st.typeIs F.entry_tuple_iterator_next ?_ (F.args_tuple_iterator_next_1 _)))
 refine wpAny_bind (m:=field (.ref it) 0) (wpAny_field hi di (x:=.ref l) rfl ?_)
 have nn:¬ ((Value.ref l==Value.none)=true):=Bool.false_ne_true
 show wpAny _ _ (if (Value.ref l==Value.none)=true then _ else _) _ _ s
 rw[if_neg nn]
 refine wpAny_bind (m:=field (.ref it) 1) (wpAny_field hi di (x:=.int k 0) rfl (wpAny_bind (m:=seqItems? (.ref l)) (wpAny_seqItems ht dt ?_)))
 simp only[Int.toNat_natCast,hx]
 refine wpAny_bind (wpAny_setField hi di (by simp) (wpAny_pure ⟨x,rfl,wpAny_pure (go _ ⟨_,Heap.get?_update_self _ hi (Obj.isFreed_of_fields (Obj.data_mapFields di _)),(Obj.cls_mapFields ..).trans ci,?_⟩ (Heap.SameBut.update ..))⟩))
 rw[Obj.data_mapFields di]
 simp[rawInt]
open PySem.Builtin.SmallTypes in
theorem Aqp {it l:Addr} {k:Nat} {xs:Array Value} {Q:Value->Shared->Prop} (hh:A.handled=none) (st:s.heap.IsTupleIter it l k) (hl:s.heap.IsTuple l xs) (hx:xs[k]?=none)
  (go:∀h' e,Heap.ExtBut it s.heap h'->(∃o,h'.get? e=some o∧o.cls=.type "StopIteration")->E (.ref e) { s with heap:=h' }):wpAny (model prog w) A (nextOf (.ref it)) Q E s:=by
 obtain⟨oi,hi,ci,di⟩:=id st
 obtain⟨ot,ht,_,n,dt⟩:=hl
 unfold nextOf
 refine wpAny_bind (wpAny_callSpecial?_slot (name:=Str.ofString "__next__") st.typeIs F.slot_tuple_iterator_next (wpAny_call_entry F.slot_tuple_iterator_next st.typeIs F.entry_tuple_iterator_next ?_ (F.args_tuple_iterator_next_1 _)))
 refine wpAny_bind (m:=field (.ref it) 0) (wpAny_field hi di (x:=.ref l) rfl ?_)
 have nn:¬ ((Value.ref l==Value.none)=true):=Bool.false_ne_true
 show wpAny _ _ (if (Value.ref l==Value.none)=true then _ else _) _ _ s
 rw[if_neg nn]
 refine wpAny_bind (m:=field (.ref it) 1) (wpAny_field hi di (x:=.int k 0) rfl (wpAny_bind (m:=seqItems? (.ref l)) (wpAny_seqItems ht dt ?_)))
 simp only[Int.toNat_natCast,hx]
 refine wpAny_bind (wpAny_rule (wpAny_bind (wpAny_setField hi di (by simp) ?_)))
 refine wpAny_bind (m:=newExc (.type "StopIteration") []) ?_
 simp only[newExc,newTuple]
 refine wpAny_bind (wpAny_newObj_type ?_ (by size_fits))
 refine wpAny_bind (m:=firstArgMember _ _) (wpAny_of_eq (a:=Value.none) (by first|rfl|(simp only[firstArgMember];rfl)) (wpAny_newObj_type ?_ (by size_fits)))
 simp only[raiseNew]
 refine wpAny_bind (wpAny_handled ?_)
 rw[show A.in1.handled=none from hh]
 exact wpAny_bind (wpAny_pure (wpAny_throw (go _ _ (((Heap.SameBut.update ..).extBut.push _).push _) ⟨_,Heap.get?_push_size _ rfl,rfl⟩)))
theorem Al9 {P:Program} {w:World} (i l:Addr):Nx P w i l (fun k h=>h.IsTupleIter i l k) (fun xs h=>h.IsTuple l xs) where
 live:=fun k h st=>by obtain⟨o,ho,_,hd⟩:=st;exact⟨o,ho,fun v z=>by rw[hd] at z;cases z⟩
 keep:=fun k h h' st k1=>st.at k1
 src:=fun xs h h' st k2=>let ⟨o,ho,r⟩:=st;⟨o,k2 o ho,r⟩
 item:=fun A k s xs x Q E st sc hx go=>Aqo st sc hx go
 done:=fun A k s xs Q E hh st sc hx go=>Aqp hh st sc hx go
theorem Aqq {P:Program} {w:World} (i l:Addr):Nx P w i l (fun k h=>h.IsListIter i l k) (fun xs h=>h.IsList l xs) where
 live:=fun k h st=>by obtain⟨o,ho,_,hd⟩:=st;exact⟨o,ho,fun v z=>by rw[hd] at z;cases z⟩
 keep:=fun k h h' st k1=>st.at k1
 src:=fun xs h h' st k2=>st.at k2
 item:=fun A k s xs x Q E st sc hx go=>wpAny_nextOf_list_item st sc hx go
 done:=fun A k s xs Q E hh st sc hx go=>wpAny_nextOf_list_end hh st sc hx go
structure ZA (z TI TO i1 i2 l1 l2:Addr):Prop where
 a:[z,TI,TO,i1,i2].Nodup
 b1:l1∉[z,TI,TO,i1,i2]
 b2:l2∉[z,TI,TO,i1,i2]
section
variable {St1 St2:Nat->Heap->Prop} {Sc1 Sc2:Array Value->Heap->Prop} {z TI TO i1 i2 l1 l2:Addr} {k:Nat} {xs ys:Array Value} {x y a b:Value}
theorem ZA.ne (D:ZA z TI TO i1 i2 l1 l2):z≠TI∧z≠TO∧z≠i1∧z≠i2∧TI≠TO∧TI≠i1∧TI≠i2∧TO≠i1∧TO≠i2∧i1≠i2:=by
 have h:=D.a
 simp only[List.nodup_cons,List.mem_cons,List.not_mem_nil,or_false,not_or,not_false_eq_true,List.nodup_nil,and_true] at h
 obtain⟨⟨h1,h2,h3,h4⟩,⟨h5,h6,h7⟩,⟨h8,h9⟩,h10⟩:=h
 exact⟨h1,h2,h3,h4,h5,h6,h7,h8,h9,h10⟩
open PySem.Builtin PySem.Builtin.SmallTypes in
theorem Ama (n1:Nx prog w i1 l1 St1 Sc1) (n2:Nx prog w i2 l2 St2 Sc2) (D:ZA z TI TO i1 i2 l1 l2) {Q:Value->Shared->Prop} (hz:IsZip s.heap z TI TO .none) (hTI:IsPair s.heap TI (.ref i1) (.ref i2)) (hTO:IsPair s.heap TO a b)
  (s1:St1 k s.heap) (s2:St2 k s.heap) (c1:Sc1 xs s.heap) (c2:Sc2 ys s.heap) (hx:xs[k]?=some x) (hy:ys[k]?=some y)
  (go:∀h',IsZip h' z TI TO (rawInt s.heap.objs.size)->IsPair h' TO x y->St1 (k+1) h'->St2 (k+1) h'->IsPair h' s.heap.objs.size x y->(∀c o,c∉[z,TO,i1,i2]->s.heap.get? c=some o->h'.get? c=some o)->Q (.ref s.heap.objs.size) { s with heap:=h' }) :
  wpAny (model prog w) A («zip.__next__» ⟨[.ref z],[]⟩) (fun fin s'=>∃v,fin=.done (.ret v)∧Q v s') E s:=by
 obtain⟨d1,d2,d3,d4,d5,d6,d7,d8,d9,d10⟩:=D.ne
 have b1:=D.b1
 have b2:=D.b2
 simp only[List.mem_cons,List.not_mem_nil,or_false,not_or] at b1 b2
 refine wpAny_bind (m:=field (.ref z) 2) (wpAny_field hz rfl (x:=.bool false) rfl (wpAny_bind (m:=field (.ref z) 3) (wpAny_field hz rfl (x:=.ref TI) rfl (wpAny_bind (wpAny_seqItems hTI rfl ?_)))))
 refine wpAny_bind (m:=ownedTupleIsFree (.ref z)) ?_
 unfold ownedTupleIsFree
 refine wpAny_bind (wpAny_field hz rfl (x:=.none) rfl (wpAny_pure ?_))
 simp only[if_true]
 refine wpAny_bind (wpAny_rule (wpAny_bind (wpAny_field hz rfl (x:=.ref TO) rfl (wpAny_bind (wpAny_setField_rec hz (by simp) fun h1 z1 e1=>wpAny_bind ?_)))))
 have z1:IsZip h1 z TI TO .ellipsis:=z1
 simp only[List.zipIdx_cons,List.zipIdx_nil,List.forIn_cons,List.forIn_nil]
 refine wpAny_bind (wpAny_bind (wpAny_onRaise (wpAny_bind (m:=nextOf (.ref i1)) ?_)))
 have keep1:∀c o,c≠z->s.heap.get? c=some o->h1.get? c=some o:=fun c o hc q=>e1.extBut _ _ hc q
 refine n1.item _ k _ xs x _ _ (n1.keep _ _ _ s1 fun o q=>keep1 _ o d3.symm q) (n1.src _ _ _ c1 fun o q=>keep1 _ o b1.1 q) hx fun h2 t2 e2=>wpAny_pure ?_
 have o2:IsPair h2 TO a b:=e2.extBut _ _ d8 (keep1 _ _ d2.symm hTO)
 refine wpAny_bind (wpAny_seqItems o2 rfl (wpAny_bind (wpAny_updateSeq_pair o2 fun h3 o3 e3=>wpAny_bind (wpAny_letGo (wpAny_pure ?_)))))
 have o3:IsPair h3 TO x b:=o3
 refine wpAny_bind (wpAny_bind (wpAny_onRaise (wpAny_bind (m:=nextOf (.ref i2)) ?_)))
 have keep3:∀c o,c≠z->c≠TO->c≠i1->s.heap.get? c=some o->h3.get? c=some o:=fun c o q1 q2 q3 q=>e3.extBut _ _ q2 (e2.extBut _ _ q3 (keep1 c o q1 q))
 refine n2.item _ k _ ys y _ _ (n2.keep _ _ _ s2 fun o q=>keep3 _ o d4.symm d9.symm d10.symm q) (n2.src _ _ _ c2 fun o q=>keep3 _ o b2.1 b2.2.2.1 b2.2.2.2.1 q) hy fun h4 t4 e4=>wpAny_pure ?_
 have o4:IsPair h4 TO x b:=e4.extBut _ _ d9 o3
 refine wpAny_bind (wpAny_seqItems o4 rfl (wpAny_bind (wpAny_updateSeq_pair o4 fun h5 o5 e5=>wpAny_bind (wpAny_letGo (wpAny_pure (wpAny_pure ?_))))))
 have o5:IsPair h5 TO x y:=o5
 refine wpAny_bind (wpAny_seqItems o5 rfl (wpAny_bind (wpAny_newTuple ?_)))
 have sz:h5.objs.size=s.heap.objs.size:=by rw[e5.1,e4.1,e3.1,e2.1,e1.1]
 have z5:IsZip h5 z TI TO .ellipsis:=e5.extBut _ _ d2 (e4.extBut _ _ d4 (e3.extBut _ _ d2 (e2.extBut _ _ d3 z1)))
 have keep5:∀c o,c∉[z,TO,i1,i2]->s.heap.get? c=some o->h5.get? c=some o:=fun c o hc q=>by
  simp only[List.mem_cons,List.not_mem_nil,or_false,not_or] at hc
  exact e5.extBut _ _ hc.2.1 (e4.extBut _ _ hc.2.2.2 (keep3 c o hc.1 hc.2.1 hc.2.2.1 q))
 have zl:z < h5.objs.size:=Heap.lt_size z5
 refine wpAny_bind (m:=ownedTupleHandOut (.ref z) (.ref h5.objs.size)) ?_
 unfold ownedTupleHandOut
 have z6:IsZip (h5.push { cls:=.type "tuple",data:=.seq #[x,y] }) z TI TO .ellipsis:=Heap.get?_push_of_some _ z5
 refine wpAny_bind (wpAny_setField_rec z6 (by simp) fun h7 z7 e7=>?_)
 have z7:IsZip h7 z TI TO (rawInt h5.objs.size):=z7
 refine wpAny_setField_rec z7 (by simp) fun h8 z8 e8=>wpAny_pure ⟨_,rfl,?_⟩
 have z8:IsZip h8 z TI TO (rawInt h5.objs.size):=z8
 have up:∀c o,c≠z->h5.get? c=some o->h8.get? c=some o:=fun c o hc q=>e8.extBut _ _ hc (e7.extBut _ _ hc (Heap.get?_push_of_some _ q))
 have new:IsPair h8 h5.objs.size x y:=e8.extBut _ _ (Nat.ne_of_gt zl) (e7.extBut _ _ (Nat.ne_of_gt zl) (Heap.get?_push_size _ rfl))
 show Q (.ref h5.objs.size) _
 rw[sz] at z8 new ⊢
 refine go h8 z8 (up _ _ d2.symm o5) (n1.keep _ _ _ t2 fun o q=>up _ o d3.symm (e5.extBut _ _ d8.symm (e4.extBut _ _ d10 (e3.extBut _ _ d8.symm q)))) (n2.keep _ _ _ t4 fun o q=>up _ o d4.symm (e5.extBut _ _ d9.symm q)) new fun c o hc q=>?_
 exact up c o (fun w=>hc (by simp[w])) (keep5 c o hc q)
open PySem.Builtin PySem.Builtin.SmallTypes in
theorem Amb (n1:Nx prog w i1 l1 St1 Sc1) (n2:Nx prog w i2 l2 St2 Sc2) (D:ZA z TI TO i1 i2 l1 l2) (hh:A.handled=none) {Q:Fin->Shared->Prop} (hz:IsZip s.heap z TI TO .none) (hTI:IsPair s.heap TI (.ref i1) (.ref i2)) (hTO:IsPair s.heap TO a b)
  (s1:St1 k s.heap) (s2:St2 k s.heap) (c1:Sc1 xs s.heap) (c2:Sc2 ys s.heap) (he:xs[k]?=none∨ys[k]?=none)
  (go:∀h' e,(∀c o,c∉[z,TO,i1,i2]->s.heap.get? c=some o->h'.get? c=some o)->(∃o,h'.get? e=some o∧o.cls=.type "StopIteration")->E (.ref e) { s with heap:=h' }) :
  wpAny (model prog w) A («zip.__next__» ⟨[.ref z],[]⟩) Q E s:=by
 obtain⟨d1,d2,d3,d4,d5,d6,d7,d8,d9,d10⟩:=D.ne
 have b1:=D.b1
 have b2:=D.b2
 simp only[List.mem_cons,List.not_mem_nil,or_false,not_or] at b1 b2
 refine wpAny_bind (m:=field (.ref z) 2) (wpAny_field hz rfl (x:=.bool false) rfl (wpAny_bind (m:=field (.ref z) 3) (wpAny_field hz rfl (x:=.ref TI) rfl (wpAny_bind (wpAny_seqItems hTI rfl ?_)))))
 refine wpAny_bind (m:=ownedTupleIsFree (.ref z)) ?_
 unfold ownedTupleIsFree
 refine wpAny_bind (wpAny_field hz rfl (x:=.none) rfl (wpAny_pure ?_))
 simp only[if_true]
 refine wpAny_bind (wpAny_rule (wpAny_bind (wpAny_field hz rfl (x:=.ref TO) rfl (wpAny_bind (wpAny_setField_rec hz (by simp) fun h1 z1 e1=>wpAny_bind ?_)))))
 have z1:IsZip h1 z TI TO .ellipsis:=z1
 simp only[List.zipIdx_cons,List.zipIdx_nil,List.forIn_cons,List.forIn_nil]
 refine wpAny_bind (wpAny_bind (wpAny_onRaise (wpAny_bind (m:=nextOf (.ref i1)) ?_)))
 have keep1:∀c o,c≠z->s.heap.get? c=some o->h1.get? c=some o:=fun c o hc q=>e1.extBut _ _ hc q
 have t1:=n1.keep _ _ _ s1 fun o q=>keep1 _ o d3.symm q
 have r1:=n1.src _ _ _ c1 fun o q=>keep1 _ o b1.1 q
 cases hx:xs[k]? with
 |none=>
  refine n1.done _ k _ xs _ _ hh t1 r1 hx fun h2 e e2 he'=>?_
  obtain⟨oe,q1,q2⟩:=he'
  have z2:IsZip h2 z TI TO .ellipsis:=e2 _ _ d3 z1
  have ez:e≠z:=fun w=>by subst w;rw[z2] at q1;cases q1;simp at q2
  refine wpAny_setField_rec z2 (by simp) fun h3 _ e3=>go h3 e (fun c o hc q=>?_) ⟨oe,e3.extBut _ _ ez q1,q2⟩
  simp only[List.mem_cons,List.not_mem_nil,or_false,not_or] at hc
  exact e3.extBut _ _ hc.1 (e2 _ _ hc.2.2.1 (keep1 c o hc.1 q))
 |some x=>
  have hy:ys[k]?=none:=by
   rcases he with q|q
   .rw[hx] at q;cases q
   .exact q
  refine n1.item _ k _ xs x _ _ t1 r1 hx fun h2 t2 e2=>wpAny_pure ?_
  have o2:IsPair h2 TO a b:=e2.extBut _ _ d8 (keep1 _ _ d2.symm hTO)
  refine wpAny_bind (wpAny_seqItems o2 rfl (wpAny_bind (wpAny_updateSeq_pair o2 fun h3 o3 e3=>wpAny_bind (wpAny_letGo (wpAny_pure ?_)))))
  refine wpAny_bind (wpAny_bind (wpAny_onRaise (wpAny_bind (m:=nextOf (.ref i2)) ?_)))
  have keep3:∀c o,c≠z->c≠TO->c≠i1->s.heap.get? c=some o->h3.get? c=some o:=fun c o q1 q2 q3 q=>e3.extBut _ _ q2 (e2.extBut _ _ q3 (keep1 c o q1 q))
  refine n2.done _ k _ ys _ _ hh (n2.keep _ _ _ s2 fun o q=>keep3 _ o d4.symm d9.symm d10.symm q) (n2.src _ _ _ c2 fun o q=>keep3 _ o b2.1 b2.2.2.1 b2.2.2.2.1 q) hy fun h4 e e4 he'=>?_
  obtain⟨oe,q1,q2⟩:=he'
  have z4:IsZip h4 z TI TO .ellipsis:=e4 _ _ d4 (e3.extBut _ _ d2 (e2.extBut _ _ d3 z1))
  have ez:e≠z:=fun w=>by subst w;rw[z4] at q1;cases q1;simp at q2
  refine wpAny_setField_rec z4 (by simp) fun h5 _ e5=>go h5 e (fun c o hc q=>?_) ⟨oe,e5.extBut _ _ ez q1,q2⟩
  simp only[List.mem_cons,List.not_mem_nil,or_false,not_or] at hc
  exact e5.extBut _ _ hc.1 (e4 _ _ hc.2.2.2 (keep3 c o hc.1 hc.2.1 hc.2.2.1 q))
end
end
def Sq2 (K:PySem.W.Frag) (T:Bool) (H:Hp) (a:Addr) (xs:List V):Prop:=match T with
 |true=>SqT K H a xs
 |false=>SqL K H a xs
def St2 (T:Bool) (i l:Addr) (k:Nat) (h:Heap):Prop:=match T with
 |true=>h.IsTupleIter i l k
 |false=>h.IsListIter i l k
def Sc2 (T:Bool) (l:Addr) (xs:Array Value) (h:Heap):Prop:=match T with
 |true=>h.IsTuple l xs
 |false=>h.IsList l xs
theorem nx2 {P:Program} {w:World} (T:Bool) (i l:Addr):Nx P w i l (St2 T i l) (Sc2 T l):=by
 cases T
 .exact Aqq i l
 .exact Al9 i l
section
variable {X:Cx} {pins:List (Addr×Obj)} {σ:St} {H:Hp} {s:Shared} {T:Bool} {a:Addr} {xs ys:List V}
theorem Inv.sq2 (I:Inv X pins σ H s) (h:Sq2 X.K T H a xs):∃its:List Value,Vals xs its∧Sc2 T a its.toArray s.heap:=by
 cases T
 .obtain⟨its,r,p,_⟩:=I.list h;exact⟨its,r,p.isList⟩
 .obtain⟨its,r,p,_⟩:=I.tuple h;exact⟨its,r,p⟩
theorem Inv.sq2_inj (I:Inv X pins σ H s) (h:Sq2 X.K T H a xs) (h':Sq2 X.K T H a ys):xs=ys:=by
 cases T
 .exact I.list_inj h h'
 .exact I.tuple_inj h h'
end
def Itz (K:PySem.W.Frag) (T:Bool) (a b:Addr):It:=⟨fun i H=>∃xs ys x y,Sq2 K T H a xs∧Sq2 K T H b ys∧xs[i]?=some x∧ys[i]?=some y,
 fun i H v H'=>∃p x y,(∀xs,Sq2 K T H a xs->xs[i]?=some x)∧(∀ys,Sq2 K T H b ys->ys[i]?=some y)∧H p=none∧v=.ref p∧H'=upd H p (.tup [x,y]),
 fun i H=>∃xs ys,Sq2 K T H a xs∧Sq2 K T H b ys∧(xs.length≤i∨ys.length≤i)⟩
def zSt (T:Bool) (z TI TO i1 i2 a b:Addr) (i:Nat) (h:Heap):Prop:=IsZip h z TI TO .none∧IsPair h TI (.ref i1) (.ref i2)∧(∃u v,IsPair h TO u v)∧St2 T i1 a i h∧St2 T i2 b i h
theorem Amc {P:Program} {w:World} {K:PySem.W.Frag} {elts:List Expr} {kt:Nat} {tpos:Pos} (T:Bool) (z TI TO i1 i2 a b:Addr) (D:ZA z TI TO i1 i2 a b) :
  Turn P w K (.Tuple elts kt tpos) (Itz K T a b) [z,TI,TO,i1,i2] z (zSt T z TI TO i1 i2 a b) where
 mem:=by simp
 obj:=fun i h st c hc=>by
  obtain⟨hz,hTI,⟨u,v,hTO⟩,t1,t2⟩:=st
  simp only[List.mem_cons,List.not_mem_nil,or_false] at hc
  rcases hc with rfl|rfl|rfl|rfl|rfl
  .exact⟨_,hz,fun v q=>by have q:Data.fields _=Data.cell v:=q;cases q⟩
  .exact⟨_,hTI,fun v q=>by have q:Data.seq _ _=Data.cell v:=q;cases q⟩
  .exact⟨_,hTO,fun v q=>by have q:Data.seq _ _=Data.cell v:=q;cases q⟩
  .exact(nx2 (P:=P) (w:=w) T _ a).live _ _ t1
  .exact(nx2 (P:=P) (w:=w) T _ b).live _ _ t2
 keep:=fun i h h' st k=>by
  obtain⟨hz,hTI,⟨u,v,hTO⟩,t1,t2⟩:=st
  exact⟨k z (by simp) _ hz,k TI (by simp) _ hTI,⟨u,v,k TO (by simp) _ hTO⟩,(nx2 (P:=P) (w:=w) T i1 a).keep _ _ _ t1 (k i1 (by simp)),(nx2 (P:=P) (w:=w) T i2 b).keep _ _ _ t2 (k i2 (by simp))⟩
 item:=by
  intro X hP hw hK hc i pins s σ H E I hf st hg
  subst hP hw hK
  obtain⟨hz,hTI,⟨u,v,hTO⟩,t1,t2⟩:=st
  obtain⟨xs,ys,x,y,qx,qy,ex,ey⟩:=hg
  obtain⟨its,rx,cx⟩:=I.sq2 qx
  obtain⟨jts,ry,cy⟩:=I.sq2 qy
  obtain⟨ux,hux,rux⟩:=rx.get ex
  obtain⟨uy,huy,ruy⟩:=ry.get ey
  have hT:s.TypeIs (.ref z) "zip":=⟨_,hz,rfl⟩
  have lt:∀{c:Addr} {o:Obj},s.heap.get? c=some o->c≠s.heap.objs.size:=fun e=>Nat.ne_of_lt (Heap.lt_size e)
  unfold pyNext
  refine wpAny_bind (wpAny_attempt (wpAny_callSpecial?_slot (name:=Str.ofString "__next__") hT F.slot_zip_next (wpAny_call_entry F.slot_zip_next hT F.entry_zip_next
   (Ama (nx2 T i1 a) (nx2 T i2 b) D hz hTI hTO t1 t2 cx cy (x:=ux) (y:=uy) (by simpa using hux) (by simpa using huy) fun h' a1 a2 a3 a4 a5 hk=>wpAny_pure ⟨_,rfl,?_⟩) (F.args_zip_next_1 _))))
  refine wpAny_letOwnedTupleGo_zip (s:={ s with heap:=h' }) a1 fun h2 z2 e2=>?_
  obtain⟨d1,d2,d3,d4,d5,d6,d7,d8,d9,d10⟩:=D.ne
  have k2:∀c o,c∉[z,TI,TO,i1,i2]->s.heap.get? c=some o->h2.get? c=some o:=fun c o hc q=>by
   simp only[List.mem_cons,List.not_mem_nil,or_false,not_or] at hc
   exact e2.extBut _ _ hc.1 (hk c o (by simp[hc]) q)
  have hpn:H s.heap.objs.size=none:=I.hok.fresh (Nat.le_refl _)
  have nH:∀c u,H c=some u->c∉[z,TI,TO,i1,i2]:=fun c u q hc=>by rw[(hf c hc).1] at q;cases q
  have nz:s.heap.objs.size≠z:=(lt hz).symm
  have hp2:IsTup h2 s.heap.objs.size #[ux,uy]:=⟨_,e2.extBut _ _ nz a5,rfl,_,rfl⟩
  refine⟨.ref s.heap.objs.size,upd H s.heap.objs.size (.tup [x,y]),?_,rfl,⟨_,x,y,fun xs' q=>by rw[I.sq2_inj q qx];exact ex,fun ys' q=>by rw[I.sq2_inj q qy];exact ey,hpn,rfl,rfl⟩,
   ⟨z2,e2.extBut _ _ d1.symm (hk _ _ (by simp[d1.symm,d5,d6,d7]) hTI),⟨_,_,e2.extBut _ _ d2.symm a2⟩,(nx2 (P:=X.prog) (w:=X.w) T i1 a).keep _ _ _ a3 (fun o q=>e2.extBut _ _ d3.symm q),(nx2 (P:=X.prog) (w:=X.w) T i2 b).keep _ _ _ a4 (fun o q=>e2.extBut _ _ d4.symm q)⟩,fun c hc=>?_⟩
  .show Inv X pins σ (upd H s.heap.objs.size (.tup [x,y])) { s with heap:=h2,gens:=s.gens,drawn:=s.drawn,toks:=s.toks }
   refine I.step (s:=s) (g':=s.gens) (d':=s.drawn) (ch:=[z,TI,TO,i1,i2]) (fun c hc=>?_) (fun c o _ _ hc q _=>k2 c o hc q) (fun c o _ _ hc q _=>⟨o.slots,k2 c o hc q⟩) (fun c o _ q n=>by rw[Bb (lt q)];exact n)
    (fun c o hc q=>⟨o,k2 c o hc q⟩) (fun c xs q=>by rw[Bb (Bt q hpn)];exact q) (fun c o u q=>by rw[Bb (Bt q hpn)];exact q) (fun c ps q=>⟨#[],by rw[Bb (Bt q hpn),q];simp⟩) (fun m hm=>?_) (fun c u q=>?_) I.bare
   .obtain⟨f0,f1,f2,f3,f4,f5⟩:=hf c hc
    exact⟨f3,f1,f4,f5⟩
   .obtain⟨o,es,ep,ho,r⟩:=hm
    exact⟨o,es,ep,k2 _ o (fun hc=>(hf _ hc).2.1 rfl) ho,r⟩
   .by_cases hb:c=s.heap.objs.size
    .subst hb
     rw[Bo] at q
     cases q
     exact⟨(show 2≤sizeLine by decide),_,.cons rux (.cons ruy .nil),hp2⟩
    .rw[Bb hb] at q
     refine(I.hok c u q).stay (fun d v hd z=>k2 d v ?_ z) (fun d z=>by rw[Bb (Bt z hpn)];exact z) fun d xs z=>by rw[Bb (Bt z hpn)];exact z
     rcases hd with rfl|hd
     .exact nH d u q
     .exact nH d _ hd
  .obtain⟨o,ho,_⟩:∃o,s.heap.get? c=some o∧True:=by
    simp only[List.mem_cons,List.not_mem_nil,or_false] at hc
    rcases hc with rfl|rfl|rfl|rfl|rfl
    .exact⟨_,hz,trivial⟩
    .exact⟨_,hTI,trivial⟩
    .exact⟨_,hTO,trivial⟩
    .obtain⟨o,ho,_⟩:=(nx2 (P:=X.prog) (w:=X.w) T _ a).live _ _ t1;exact⟨o,ho,trivial⟩
    .obtain⟨o,ho,_⟩:=(nx2 (P:=X.prog) (w:=X.w) T _ b).live _ _ t2;exact⟨o,ho,trivial⟩
   rw[Bb (lt ho)]
   exact(hf c hc).1
 done:=by
  intro X hP hw hK hc i pins s σ H E I hf st hg
  subst hP hw hK
  obtain⟨hz,hTI,⟨u,v,hTO⟩,t1,t2⟩:=st
  obtain⟨xs,ys,qx,qy,he⟩:=hg
  obtain⟨its,rx,cx⟩:=I.sq2 qx
  obtain⟨jts,ry,cy⟩:=I.sq2 qy
  have hT:s.TypeIs (.ref z) "zip":=⟨_,hz,rfl⟩
  have he':its.toArray[i]?=none∨jts.toArray[i]?=none:=by
   rcases he with q|q
   .exact .inl (by rw[Array.getElem?_eq_none_iff,List.size_toArray,←rx.length];exact q)
   .exact .inr (by rw[Array.getElem?_eq_none_iff,List.size_toArray,←ry.length];exact q)
  have nH:∀c u,H c=some u->c∉[z,TI,TO,i1,i2]:=fun c u q hc=>by rw[(hf c hc).1] at q;cases q
  unfold pyNext
  refine wpAny_bind (wpAny_attempt (wpAny_callSpecial?_slot (name:=Str.ofString "__next__") hT F.slot_zip_next (wpAny_call_entry F.slot_zip_next hT F.entry_zip_next
   (Amb (nx2 T i1 a) (nx2 T i2 b) D (show X.A.in1.handled=none from I.ok.hd hc) hz hTI hTO t1 t2 cx cy he' fun h' e hk q=>?_) (F.args_zip_next_1 _))))
  obtain⟨o,ho,hcl⟩:=q
  refine wpAny_bind (wpAny_isInstance (T:="StopIteration") (b:=true) ⟨o,ho,hcl⟩ isSubtype_stop (wpAny_pure ⟨rfl,?_⟩))
  have k2:∀c o,c∉[z,TI,TO,i1,i2]->s.heap.get? c=some o->h'.get? c=some o:=fun c o hc q=>hk c o (fun m=>hc (by simp only[List.mem_cons,List.not_mem_nil,or_false] at m ⊢;rcases m with m|m|m|m <;> simp[m])) q
  refine I.step (s:=s) (g':=s.gens) (d':=s.drawn) (t':=s.toks) (h':=h') (ch:=[z,TI,TO,i1,i2]) (fun c hc=>?_) (fun c o _ _ hc q _=>k2 c o hc q) (fun c o _ _ hc q _=>⟨o.slots,k2 c o hc q⟩) (fun c o _ q n=>n)
   (fun c o hc q=>⟨o,k2 c o hc q⟩) (fun c xs q=>q) (fun c o u q=>q) (fun c ps q=>⟨#[],by rw[q];simp⟩) (fun m hm=>?_) (fun c u q=>?_) I.bare
  .obtain⟨f0,f1,f2,f3,f4,f5⟩:=hf c hc
   exact⟨f3,f1,f4,f5⟩
  .obtain⟨o,es,ep,ho,r⟩:=hm
   exact⟨o,es,ep,k2 _ o (fun hc=>(hf _ hc).2.1 rfl) ho,r⟩
  .refine(I.hok c u q).stay (fun d v hd z=>k2 d v ?_ z) (fun _ z=>z) fun _ _ z=>z
   rcases hd with rfl|hd
   .exact nH d u q
   .exact nH d _ hd
 self:=fun _ _ _ _ _ st h=>wpAny_pyIter_zip st.1 h
abbrev itT (a:Addr):Obj:={ cls:=.type "tuple_iterator",data:=.fields #[.ref a,.int 0 0] }
abbrev Ahf (u v:Value):Obj:={ cls:=.type "tuple",data:=.seq #[u,v] }
abbrev Azq (TI TO:Addr):Obj:={ cls:=.type "zip",data:=.fields #[.none,.bool false,.bool false,.ref TI,.ref TO] }
def zT2 (h:Heap) (a b:Addr):Heap:=(h.push (itT a)).push (itT b)
def zT3 (h:Heap) (a b:Addr):Heap:=(zT2 h a b).push (Ahf (.ref h.objs.size) (.ref (h.push (itT a)).objs.size))
def zT4 (h:Heap) (a b:Addr):Heap:=(zT3 h a b).push (Ahf .none .none)
def zT5 (h:Heap) (a b:Addr):Heap:=(zT4 h a b).push (Azq (zT2 h a b).objs.size (zT3 h a b).objs.size)
theorem Afr (a b:Addr) (xs ys:Array Value) :
  Meets (Builtin.«zip.__new__» ⟨[.type "zip",.ref a,.ref b],[]⟩) (fun _ R s=>s.heap.IsTuple a xs∧s.heap.IsTuple b ys∧R (.ok (.ret (.ref (zT4 s.heap a b).objs.size))) { s with heap:=zT5 s.heap a b }):=
 .of_wp fun prog w A R s h=>by
  obtain⟨hp,g,d,tk,os⟩:=s
  obtain⟨t1,t2,h⟩:=h
  have e0:=sub_zip
  have p1:Heap.IsTuple (Shared.heap ⟨hp,g,d,tk,os⟩) a xs:=t1
  have p2:Heap.IsTuple (Shared.heap ⟨hp.push (itT a),g,d,tk,os⟩) b ys:=Heap.IsTuple.push t2 _
  wp_walk using wpAny_pyIter_tuple p1,wpAny_pyIter_tuple p2
  exact⟨_,rfl,h⟩
section
variable {prog:Program} {w:World} {A:Around} {E:Value->Shared->Prop} {s:Shared}
theorem Ajl {a b:Addr} {xs ys:Array Value} {Q:Value->Shared->Prop} (h1:s.heap.IsTuple a xs) (h2:s.heap.IsTuple b ys)
  (go:∀h',IsZip h' (s.heap.objs.size+4) (s.heap.objs.size+2) (s.heap.objs.size+3) .none->IsPair h' (s.heap.objs.size+2) (.ref s.heap.objs.size) (.ref (s.heap.objs.size+1))->IsPair h' (s.heap.objs.size+3) .none .none->
   h'.IsTupleIter s.heap.objs.size a 0->h'.IsTupleIter (s.heap.objs.size+1) b 0->(∀c o,s.heap.get? c=some o->h'.get? c=some o)->Q (.ref (s.heap.objs.size+4)) { s with heap:=h' }) :
  wpAny (model prog w) A (call (.type "zip") [.ref a,.ref b]) Q E s:=by
 refine callType_new F.called_zip (by decide) (F.typeCall_zip_2 _ _) (F.newCall_zip_2 _ _) (fun obj=>F.args_object_init_3 obj _ _) F.entry_zip_new (Afr a b xs ys) ⟨h1,h2,?_⟩
 have n1:(s.heap.push (itT a)).objs.size=s.heap.objs.size+1:=Heap.size_push ..
 have n2:(zT2 s.heap a b).objs.size=s.heap.objs.size+2:=by unfold zT2;rw[Heap.size_push,n1]
 have n3:(zT3 s.heap a b).objs.size=s.heap.objs.size+3:=by unfold zT3;rw[Heap.size_push,n2]
 have n4:(zT4 s.heap a b).objs.size=s.heap.objs.size+4:=by unfold zT4;rw[Heap.size_push,n3]
 have up2:∀c o,(zT2 s.heap a b).get? c=some o->(zT5 s.heap a b).get? c=some o:=fun c o q=>by unfold zT5 zT4 zT3;exact Heap.get?_push_of_some _ (Heap.get?_push_of_some _ (Heap.get?_push_of_some _ q))
 have g5:(zT5 s.heap a b).get? (zT4 s.heap a b).objs.size=some (Azq (zT2 s.heap a b).objs.size (zT3 s.heap a b).objs.size):=by unfold zT5;exact Heap.get?_push_size _ rfl
 have g4:(zT5 s.heap a b).get? (zT3 s.heap a b).objs.size=some (Ahf .none .none):=by unfold zT5 zT4;exact Heap.get?_push_of_some _ (Heap.get?_push_size _ rfl)
 have g3:(zT5 s.heap a b).get? (zT2 s.heap a b).objs.size=some (Ahf (.ref s.heap.objs.size) (.ref (s.heap.push (itT a)).objs.size)):=by unfold zT5 zT4 zT3;exact Heap.get?_push_of_some _ (Heap.get?_push_of_some _ (Heap.get?_push_size _ rfl))
 have g2:(zT5 s.heap a b).get? (s.heap.push (itT a)).objs.size=some (itT b):=up2 _ _ (by unfold zT2;exact Heap.get?_push_size _ rfl)
 have g1:(zT5 s.heap a b).get? s.heap.objs.size=some (itT a):=up2 _ _ (by unfold zT2;exact Heap.get?_push_of_some _ (Heap.get?_push_size _ rfl))
 show _∧_
 rw[n2,n3,n4] at g5
 rw[n3] at g4
 rw[n1,n2] at g3
 rw[n1] at g2
 rw[n4]
 exact⟨⟨_,g5,rfl⟩,go _ g5 g3 g4 ⟨_,g1,rfl,rfl⟩ ⟨_,g2,rfl,rfl⟩ fun c o q=>up2 _ _ (by unfold zT2;exact Heap.get?_push_of_some _ (Heap.get?_push_of_some _ q))⟩
theorem Ajm {T:Bool} {a b:Addr} {xs ys:Array Value} {Q:Value->Shared->Prop} (h1:Sc2 T a xs s.heap) (h2:Sc2 T b ys s.heap)
  (go:∀h',zSt T (s.heap.objs.size+4) (s.heap.objs.size+2) (s.heap.objs.size+3) s.heap.objs.size (s.heap.objs.size+1) a b 0 h'->(∀c o,s.heap.get? c=some o->h'.get? c=some o)->Q (.ref (s.heap.objs.size+4)) { s with heap:=h' }) :
  wpAny (model prog w) A (call (.type "zip") [.ref a,.ref b]) Q E s:=by
 cases T
 .exact call_zip_2 h1 h2 fun h' q1 q2 q3 q4 q5 _ k=>go h' ⟨q1,q2,⟨_,_,q3⟩,q4,q5⟩ k
 .exact Ajl h1 h2 fun h' q1 q2 q3 q4 q5 k=>go h' ⟨q1,q2,⟨_,_,q3⟩,q4,q5⟩ k
end
theorem boot_zip:bootBuiltins "zip"=some (.type "zip"):=by decide +kernel
def Bca (K:PySem.W.Frag) (ta:TA):TI:=fun σ H R=>ta σ H fun vs H1=>∃T a b xs ys,vs=[.ref a,.ref b]∧Sq2 K T H1 a xs∧Sq2 K T H1 b ys∧R (Itz K T a b) H1
theorem Av9 {X:Cx} {elts:List Expr} {kt:Nat} {tpos p pos:Pos} {e:Expr} {es:List Expr} {ta:TA} (hg:Gl X "zip") (hm:X.mg "zip"=none) (ha:PA X (e::es) ta) (hs:starEach (e::es) X.env=(false,eval e X.env)::starEach es X.env) (hpl:(backTo pos (starEach es X.env)).any (·.1)=false) :
  PI X (.Tuple elts kt tpos) (.Call (.Name "zip" p) (e::es) [] pos) (Bca X.K ta):=by
 intro pins s σ H R I h
 refine Call_ (Py I hg hm boot_zip (PyProof.Rows.callWith_type1 (thn (ha pos pins s σ H _ I h) fun us s1 ⟨vs,H1,I1,r1,q1⟩=>?_) hs hpl))
 obtain⟨T,a,b,xs,ys,rfl,qx,qy,q⟩:=q1
 obtain⟨u,v,rfl,ru,rv⟩:=r1.two
 obtain rfl:u=Value.ref a:=ru
 obtain rfl:v=Value.ref b:=rv
 obtain⟨its,rx,cx⟩:=I1.sq2 qx
 obtain⟨jts,ry,cy⟩:=I1.sq2 qy
 have there:∀{c:Addr} {us:Array Value},Sc2 T c us s1.heap->c < s1.heap.objs.size:=fun {c us} q=>by
  cases T
  .obtain⟨o,ho,_⟩:=q;exact Heap.lt_size ho
  .obtain⟨o,ho,_⟩:=q;exact Heap.lt_size ho
 have la:=there cx
 have lb:=there cy
 have hn:∀c∈[s1.heap.objs.size+4,s1.heap.objs.size+2,s1.heap.objs.size+3,s1.heap.objs.size,s1.heap.objs.size+1],s1.heap.objs.size≤c:=fun c hc=>by
  simp only[List.mem_cons,List.not_mem_nil,or_false] at hc
  rcases hc with rfl|rfl|rfl|rfl|rfl
  .exact Nat.le_add_right _ _
  .exact Nat.le_add_right _ _
  .exact Nat.le_add_right _ _
  .exact Nat.le_refl _
  .exact Nat.le_add_right _ _
 refine Ajm cx cy fun h' st k=>wpAny_pyIter_zip st.1 ?_
 refine⟨_,[s1.heap.objs.size+4,s1.heap.objs.size+2,s1.heap.objs.size+3,s1.heap.objs.size,s1.heap.objs.size+1],_,_,H1,rfl,I1.kept (t':=s1.toks) k,Amc T _ _ _ _ _ a b ⟨by simp,fun m=>absurd (Nat.lt_of_lt_of_le la (hn a m)) (Nat.lt_irrefl _),fun m=>absurd (Nat.lt_of_lt_of_le lb (hn b m)) (Nat.lt_irrefl _)⟩,st,fun c hc=>I1.fpOk (hn c hc) (I1.hok.fresh (hn c hc)),q⟩
def leS (a b:Str):Bool:=!decide (b.cps.toList < a.cps.toList)
def Jl (ss:List Str):List Str:=ss.mergeSort leS
def Wj (ns:List Int):List Int:=ns.mergeSort (fun a b=>decide (a≤b))
theorem Sd {α:Type} {r:α->α->Prop} (as:∀a b,r a b->r b a->a=b):∀{l1 l2:List α},l1.Perm l2->l1.Pairwise r->l2.Pairwise r->l1=l2
 |[],l2,p,_,_=>p.nil_eq
 |a::l1,[],p,_,_=>by have:=p.length_eq;simp at this
 |a::l1,b::l2,p,h1,h2=>by
  rw[List.pairwise_cons] at h1 h2
  have e:a=b:=by
   rcases List.mem_cons.mp (p.mem_iff.mp List.mem_cons_self) with q|q
   .exact q
   .rcases List.mem_cons.mp (p.mem_iff.mpr List.mem_cons_self) with z|z
    .exact z.symm
    .exact as a b (h1.1 b z) (h2.1 a q)
  subst e
  rw[Sd as (List.Perm.cons_inv p) h1.2 h2.2]
theorem Ajn (a b:Str):(leS a b||leS b a)=true:=by
 unfold leS
 rw[Bool.or_eq_true,Bool.not_eq_true',Bool.not_eq_true',decide_eq_false_iff_not,decide_eq_false_iff_not]
 rcases List.le_total a.cps.toList b.cps.toList with h|h
 .exact .inl (List.not_lt.mpr h)
 .exact .inr (List.not_lt.mpr h)
theorem Ze (a b c:Str) (h1:leS a b=true) (h2:leS b c=true):leS a c=true:=by
 unfold leS at *
 rw[Bool.not_eq_true',decide_eq_false_iff_not] at *
 exact List.not_lt.mpr (List.le_trans (List.not_lt.mp h1) (List.not_lt.mp h2))
theorem Ac6 (a b:Str) (h1:leS a b=true) (h2:leS b a=true):a=b:=by
 unfold leS at *
 rw[Bool.not_eq_true',decide_eq_false_iff_not] at *
 have e:=List.le_antisymm (List.not_lt.mp h1) (List.not_lt.mp h2)
 obtain⟨⟨x⟩⟩:=a
 obtain⟨⟨y⟩⟩:=b
 have e:x=y:=e
 rw[e]
theorem Ho (ss:List Str):(Jl ss).Perm ss:=List.mergeSort_perm ss leS
theorem Uk (ss:List Str):(Jl ss).Pairwise (fun a b=>leS a b=true):=List.pairwise_mergeSort Ze Ajn ss
theorem Sg (ns:List Int):(Wj ns).Perm ns:=List.mergeSort_perm ns _
theorem Ac7 (ns:List Int):(Wj ns).Pairwise (·≤·):=by
 have h:=List.pairwise_mergeSort (le:=fun a b:Int=>decide (a≤b)) (fun a b c h1 h2=>by simp only[decide_eq_true_eq] at *;omega) (fun a b=>by simp only[Bool.or_eq_true,decide_eq_true_eq];omega) ns
 exact h.imp fun h=>by simpa using h
theorem Wk:∀(p:Str) (l:List Str),risingS p l=true->(p::l).Pairwise (fun a b=>leS a b=true)
 |p,[],_=>by simp
 |p,x::r,h=>by
  have h:(!ltCps x.cps.toList p.cps.toList&&risingS x r)=true:=h
  rw[Bool.and_eq_true,ltCps_eq] at h
  have ih:=Wk x r h.2
  rw[List.pairwise_cons]
  refine⟨fun y hy=>?_,ih⟩
  rcases List.mem_cons.mp hy with rfl|hy
  .exact h.1
  .exact Ze p x y h.1 ((List.pairwise_cons.mp ih).1 y hy)
theorem Ahg {ss ss':List Str} (p:ss'.Perm ss) (h:sortedS ss'=true):ss'=Jl ss:=by
 refine Sd Ac6 (p.trans (Ho ss).symm) ?_ (Uk ss)
 cases ss' with
 |nil=>exact .nil
 |cons x r=>exact Wk x r h
theorem Ahh {ns ns':List Int} (p:ns'.Perm ns) (h:ns'.Pairwise (·≤·)):ns'=Wj ns:=Sd (fun a b h1 h2=>Int.le_antisymm h1 h2) (p.trans (Sg ns).symm) h (Ac7 ns)
section
variable {X:Cx} {pins:List (Addr×Obj)} {σ:St} {H:Hp} {s:Shared} {h':Heap} {tk:Nat}
theorem Inv.newO {e:Addr} {o:HO} (I:Inv X pins σ H s) (hk:∀b ob,s.heap.get? b=some ob->h'.get? b=some ob) (hn:s.heap.get? e=none) (ho:Dc X.prog X.w (upd H e o) h' e o):Inv X pins σ (upd H e o) { s with heap:=h',toks:=tk }:=by
 have ne:∀{b:Addr} {o:Obj},s.heap.get? b=some o->b≠e:=fun q z=>by rw[z,hn] at q;cases q
 have nt:∀{b:Addr} {u:HO},H b=some u->b≠e:=fun q=>by
  obtain⟨o,ho⟩:=(I.hok _ _ q).there
  exact ne ho
 refine I.step (s:=s) (g':=s.gens) (d':=s.drawn) (t':=tk) (h':=h') (ch:=[]) (fun _ z=>nomatch z) (fun b o _ _ _ q _=>hk b o q) (fun b o _ _ _ q _=>⟨o.slots,hk b o q⟩) (fun b o _ q n=>by rw[Bb (ne q)];exact n)
  (fun b o _ q=>⟨o,hk b o q⟩) (fun b xs q=>by rw[Bb (nt q)];exact q) (fun b o u q=>by rw[Bb (nt q)];exact q) (fun b ps q=>⟨#[],by rw[Bb (nt q),Array.append_empty];exact q⟩) (fun m hm=>hm.keeps hk) (fun a u q=>?_) I.bare
 by_cases ha:a=e
 .subst ha
  rw[Bo] at q;cases q
  exact ho
 .rw[Bb ha] at q
  exact(I.hok a u q).stay (fun b v _ z=>hk b v z) (fun b z=>by rw[Bb (nt z)];exact z) fun b xs z=>by rw[Bb (nt z)];exact z
theorem Sh:∀{us:List Value} {ss:List Str},StrsAre us ss->Vals (ss.map V.str) us
 |_,_,.nil=>.nil
 |_,_,.cons x t h=>.cons ⟨t,rfl⟩ (Sh h)
theorem Qd:∀{us:List Value} {ns:List Int},IntsAre us ns->Vals (ns.map V.int) us
 |_,_,.nil=>.nil
 |_,_,.cons n t h=>.cons ⟨t,rfl⟩ (Qd h)
end
section
variable {X:Cx}
theorem Aa2:Gw X (.builtin "sorted") (fun xs H Q=>∃p,∃ss:List Str,xs=[.ref p]∧H p=some (.lst (ss.map V.str))∧ss.length < 64∧∀q,H q=none->Q (.ref q) (upd H q (.lst ((Jl ss).map V.str)))):=by
 intro pins s σ H xs us Q I r h
 obtain⟨p,ss,rfl,hp,h64,q⟩:=h
 obtain⟨u,rfl,ru⟩:=vals1 r
 cases ru
 obtain⟨_,its,n,rv,e⟩:=(show Dc X.prog X.w H s.heap p (.lst (ss.map V.str)) from I.hok p _ hp)
 have hS:=Aa1 rv
 have hl:its.length=ss.length:=by rw[←rv.length,List.length_map]
 refine sorted_strs (l:=p) ⟨_,e,rfl,_,rfl⟩ hS (by omega) fun out ss' h1 h2 h3=>?_
 obtain rfl:=Ahg h2 h3
 obtain⟨ep,hat⟩:=sortedAll_at s.heap its out
 have hnew:s.heap.get? (s.heap.objs.size+1)=none:=Heap.get?_none_of_le (Nat.le_succ _)
 refine⟨.ref (s.heap.objs.size+1),_,I.newO (o:=.lst ((Jl ss).map V.str)) (tk:=s.toks) (fun b o q=>sortedAll_old q) hnew ⟨?_,out.toList,ep,Sh h1,hat⟩,rfl,q _ (I.hok.fresh (Nat.le_succ _))⟩
 rw[List.length_map,(Ho ss).length_eq]
 exact Nat.le_trans (Nat.le_of_lt h64) (by decide)
theorem Aa3:Gw X (.builtin "sorted") (fun xs H Q=>∃p,∃ns:List Int,xs=[.ref p]∧H p=some (.lst (ns.map V.int))∧ns.length < 64∧∀q,H q=none->Q (.ref q) (upd H q (.lst ((Wj ns).map V.int)))):=by
 intro pins s σ H xs us Q I r h
 obtain⟨p,ss,rfl,hp,h64,q⟩:=h
 obtain⟨u,rfl,ru⟩:=vals1 r
 cases ru
 obtain⟨_,its,n,rv,e⟩:=(show Dc X.prog X.w H s.heap p (.lst (ss.map V.int)) from I.hok p _ hp)
 have hS:=intsAre_of rv
 have hl:its.length=ss.length:=by rw[←rv.length,List.length_map]
 refine sorted_ints (l:=p) ⟨_,e,rfl,_,rfl⟩ hS (by omega) fun out ss' h1 h2 h3=>?_
 obtain rfl:=Ahh h2 h3
 obtain⟨ep,hat⟩:=sortedAll_at s.heap its out
 have hnew:s.heap.get? (s.heap.objs.size+1)=none:=Heap.get?_none_of_le (Nat.le_succ _)
 refine⟨.ref (s.heap.objs.size+1),_,I.newO (o:=.lst ((Wj ss).map V.int)) (tk:=s.toks) (fun b o q=>sortedAll_old q) hnew ⟨?_,out.toList,ep,Qd h1,hat⟩,rfl,q _ (I.hok.fresh (Nat.le_succ _))⟩
 rw[List.length_map,(Sg ss).length_eq]
 exact Nat.le_trans (Nat.le_of_lt h64) (by decide)
theorem Afs {ss:List Str} {vs:List (Key×Value)} (hk:vs.map (·.1)=ss.map Sum.inr) {us:List Value} (hl:us.length=vs.length) (h:∀(j:Nat) (v:Value),us[j]?=some v->∃k x,vs[j]?=some (k,x)∧Qy k v=true):StrsAre us ss:=by
 induction ss generalizing vs us with
 |nil=>
  cases vs with
  |nil=>cases us with
   |nil=>exact .nil
   |cons u us=>simp at hl
  |cons p vs=>simp at hk
 |cons s ss ih=>
  cases vs with
  |nil=>simp at hk
  |cons p vs=>
   cases us with
   |nil=>simp at hl
   |cons u us=>
    rw[List.map_cons,List.map_cons] at hk
    obtain⟨h1,h2⟩:=List.cons.inj hk
    obtain⟨k,x,e,q⟩:=h 0 u rfl
    have e:p=(k,x):=by simpa using e
    subst e
    have h1:k=Sum.inr s:=h1
    subst h1
    rcases Dn q with ⟨_,_,e1,_⟩|⟨y,tk,e1,rfl⟩
    .cases e1
    cases e1
    exact .cons _ _ (ih h2 (by simpa using hl) fun j v z=>by simpa using h (j+1) v (by simpa using z))
theorem Aft {ns:List Int} {vs:List (Key×Value)} (hk:vs.map (·.1)=ns.map Sum.inl) {us:List Value} (hl:us.length=vs.length) (h:∀(j:Nat) (v:Value),us[j]?=some v->∃k x,vs[j]?=some (k,x)∧Qy k v=true):IntsAre us ns:=by
 induction ns generalizing vs us with
 |nil=>
  cases vs with
  |nil=>cases us with
   |nil=>exact .nil
   |cons u us=>simp at hl
  |cons p vs=>simp at hk
 |cons s ss ih=>
  cases vs with
  |nil=>simp at hk
  |cons p vs=>
   cases us with
   |nil=>simp at hl
   |cons u us=>
    rw[List.map_cons,List.map_cons] at hk
    obtain⟨h1,h2⟩:=List.cons.inj hk
    obtain⟨k,x,e,q⟩:=h 0 u rfl
    have e:p=(k,x):=by simpa using e
    subst e
    have h1:k=Sum.inl s:=h1
    subst h1
    rcases Dn q with ⟨y,tk,e1,rfl⟩|⟨_,_,e1,_⟩
    case inr=>cases e1
    cases e1
    exact .cons _ _ (ih h2 (by simpa using hl) fun j v z=>by simpa using h (j+1) v (by simpa using z))
theorem Aqr:∀{kvs:List (Key×V)} {vs:List (Key×Value)},KV kvs vs->vs.map (·.1)=kvs.map (·.1):=fun {kvs vs} r=>by
 unfold KV at r
 induction r with
 |nil=>rfl
 |cons h _ ih=>rw[List.map_cons,List.map_cons,ih,h.1]
theorem Aa4 (hc:X.calm=true):Gw X (.builtin "sorted") (fun xs H Q=>∃p kvs,xs=[.ref p]∧H p=some (.dK kvs)∧kvs.length < 64∧
  ((∃ss:List Str,kvs.map (·.1)=ss.map Sum.inr∧∀q,H q=none->Q (.ref q) (upd H q (.lst ((Jl ss).map V.str))))∨(∃ns:List Int,kvs.map (·.1)=ns.map Sum.inl∧∀q,H q=none->Q (.ref q) (upd H q (.lst ((Wj ns).map V.int)))))):=by
 intro pins s σ H xs us Q I r h
 obtain⟨p,kvs,rfl,hp,h64,q⟩:=h
 obtain⟨u,rfl,ru⟩:=vals1 r
 cases ru
 obtain⟨_,lo,vs,rk,hd⟩:=(show Dc X.prog X.w H s.heap p (.dK kvs) from I.hok p _ hp)
 obtain⟨ep,hat⟩:=hd.dictAt
 have ek:=Aqr rk
 have lk:vs.length=kvs.length:=by simpa using congrArg List.length ek
 refine Calls.call_function_entry kind_sorted plain_sorted entry_sorted (args_sorted1 _) ?_
 unfold Builtin.«sorted»
 refine wpAny_bind (m:=checkCount "sorted" 1 1 _) (wpAny_pure (wpAny_bind (PySem.W.kdu_collect (A:=X.A.in1) (PySem.W.kdl_dict (knd:=Ek X.prog X.w) (kvs:=vs) (ep:=ep) lo) (show X.A.in1.handled=none from I.ok.hd hc) hat (by rw[lk];exact Nat.le_trans (Nat.le_of_lt h64) (by decide)) fun h1 tk acc hk hacc=>?_)))
 have la:acc.toList.length=vs.length:=by rw[Array.length_toList];exact hacc.1
 refine wpAny_bind (wpAny_newList ?_ (by rw[la,lk];exact Nat.le_trans (Nat.le_of_lt h64) (by decide)))
 have items:∀(j:Nat) (v:Value),acc.toList[j]?=some v->∃k x,vs[j]?=some (k,x)∧Qy k v=true:=fun j v z=>hacc.2 j v (by rw[←Array.getElem?_toList];exact z)
 generalize e2:h1.push (seqObj "list" acc.toList.toArray 0)=h2
 have ho:h2.get? h1.objs.size=some (seqObj "list" acc.toList.toArray 0):=by rw[←e2];exact Heap.get?_push_size _ rfl
 have z2:h2.objs.size=h1.objs.size+1:=by rw[←e2];exact size_push' ..
 have k2:∀b ob,s.heap.get? b=some ob->h2.get? b=some ob:=fun b ob z=>by rw[←e2];exact Heap.get?_push_of_some _ (hk b ob z)
 have hnew:s.heap.get? h1.objs.size=none:=by
  cases z:s.heap.get? h1.objs.size with
  |none=>rfl
  |some o=>exact absurd (Heap.lt_size (hk _ _ z)) (Nat.lt_irrefl _)
 have hfree:H h1.objs.size=none:=by
  cases z:H h1.objs.size with
  |none=>rfl
  |some o=>
   obtain⟨ob,hob⟩:=(I.hok _ o z).there
   rw[hnew] at hob;cases hob
 have old:∀(out:Array Value) b ob,s.heap.get? b=some ob->(sortedHeap h2 h1.objs.size acc.toList out).get? b=some ob:=fun out b ob z=>by
  rw[sortedHeap_old (fun w=>by rw[w,hnew] at z;cases z) (Heap.lt_size (k2 b ob z))]
  exact k2 b ob z
 rcases q with ⟨ss,ks,q⟩|⟨ns,ks,q⟩
 .have hS:StrsAre acc.toList ss:=Afs (ek.trans ks) la items
  refine wpAny_bind (wpAny_holding (wpAny_call_entry slot_list_sort ⟨_,ho,rfl⟩ entry_list_sort (list_sort_treeK strKind_oneLt ho hS.keysOf (fun v1 v2 rest e=>keyKind_strs (by rw[←e];exact hS)) (by omega) fun st' a1 a2=>⟨_,rfl,?_⟩) (args_list_sort _)))
  obtain⟨ss',b1,b2,b3⟩:=sorted_out_str hS a1 a2
  obtain rfl:=Ahg b2 b3
  obtain⟨ep',hat'⟩:=sortedHeap_at (out:=(arrOf st').map (·.2)) ho
  refine wpAny_pure ⟨_,rfl,.ref h1.objs.size,_,I.newO (o:=.lst ((Jl ss).map V.str)) (tk:=tk) (old _) hnew ⟨?_,_,ep',Sh b1,hat'⟩,rfl,q _ ?_⟩
  .rw[List.length_map,(Ho ss).length_eq]
   have:ss.length=kvs.length:=by simpa using (congrArg List.length ks).symm
   exact Nat.le_trans (by omega:ss.length≤64) (by decide)
  .exact hfree
 .have hS:IntsAre acc.toList ns:=Aft (ek.trans ks) la items
  refine wpAny_bind (wpAny_holding (wpAny_call_entry slot_list_sort ⟨_,ho,rfl⟩ entry_list_sort (list_sort_tree ho hS (by omega) fun out ns' b1 b2 b3=>⟨_,rfl,?_⟩) (args_list_sort _)))
  obtain rfl:=Ahh b2 b3
  obtain⟨ep',hat'⟩:=sortedHeap_at (out:=out) ho
  refine wpAny_pure ⟨_,rfl,.ref h1.objs.size,_,I.newO (o:=.lst ((Wj ns).map V.int)) (tk:=tk) (old _) hnew ⟨?_,_,ep',Qd b1,hat'⟩,rfl,q _ ?_⟩
  .rw[List.length_map,(Sg ns).length_eq]
   have:ns.length=kvs.length:=by simpa using (congrArg List.length ks).symm
   exact Nat.le_trans (by omega:ns.length≤64) (by decide)
  .exact hfree
end
section
variable {prog:Program} {w:World} {A:Around} {E:Value->Shared->Prop} {h:Heap} {g:Array GenState} {d:Drawn} {t:Nat} {os:OsState}
variable {nm q:Str} {C N fI:Addr} {bs tl bmB:List Value} {hdct:Bool} {sn:List Str} {sub:List Value} {ab:Bool} {col:Option Bool} {dd:Option Addr} {k0 k1 k2 k3 k5:Option Value} {B newId initId:String} {oI:Obj} {mN:Str->Option Value} {rest:List Value}
theorem Aqs (F:ExcBaseFacts B newId initId bmB) (T:OwnTail h bmB tl) {Q:Fin->Shared->Prop} (hC:h.get? C=some (excClassObj nm q C N bs tl hdct sn sub ab col dd k0 k1 k2 k3 k5 newId))
  (hn:h.Ns N mN) (hi:mN "__init__"=some (.ref fI)) (hf:h.get? fI=some oI) (hfc:oI.cls=.type "function") (hl:rest.length≤sizeLine)
  (go:∀h' e,Heap.MadeExcOf h h' e (.ref C) rest->wpAny (model prog w) A (call (.ref fI) (.ref e::rest)) (fun r s'=>r=.none∧Q (.done (.ret (.ref e))) s') E ⟨h',g,d,t,os⟩) :
  wpAny (model prog w) A (Builtin.«type.__call__» ⟨.ref C::rest,[]⟩) Q E ⟨h,g,d,t,os⟩:=by
 repeat (first|(with_reducible refine wpAny_loadPart_at hC ?_)|(with_reducible refine wpAny_madeBy_exc hC ?_)|wp_step)
 refine codeAny_call_builtin_code (Code.quiet_builtin _ F.quiet) (wpAny_check_new_subT F T hC (codeAny_exc_new_subT F T hC ?_ hl))
 generalize e1:h.push { cls:=.type "tuple",data:=.seq rest.toArray }=h1
 generalize e2:h1.push { cls:=.ref C,data:=.fields #[.ref h.objs.size,.none,.none,.none,.bool false,.none] }=h2
 have z1:h1.objs.size=h.objs.size+1:=by rw[←e1];exact Heap.size_push ..
 have keep:∀b o,h.get? b=some o->h2.get? b=some o:=fun b o z=>by rw[←e2];exact Heap.get?_push_of_some _ (by rw[←e1];exact Heap.get?_push_of_some _ z)
 have made:h2.get? (h.objs.size+1)=some { cls:=.ref C,data:=.fields #[.ref h.objs.size,.none,.none,.none,.bool false,.none] }:=by
  rw[←e2,←z1];exact Heap.get?_push_size _ rfl
 have hC2:=keep _ _ hC
 show wpAny _ _ _ _ _ _
 have own:(Value.ref C::tl).contains (.ref C)=true:=by simp
 unfold isInstance
 repeat (first|(with_reducible refine wpAny_loadPart_at made ?_)|(with_reducible refine wpAny_isSubtype_exc hC2 ?_;rw[own])|wp_step)
 show wpAny _ _ (typeLookup (.ref C) _) _ _ _
 refine wpAny_typeLookup_tail hC2 (hn.keeps keep) (T.keeps keep) F.mroIs F.init.lookup ?_
 rw[hi]
 refine wpAny_holding (wpAny_bind ?_)
 unfold bindSpecial
 refine wpAny_bind (wpAny_typeOf (T:="function") ⟨_,keep _ _ hf,hfc⟩ ?_)
 rw[if_pos (by decide)]
 refine wpAny_pure (wpAny_bind (wpAny_mono (go h2 (h.objs.size+1) ⟨keep,Heap.get?_none_of_le (Nat.le_succ _),h.objs.size,made,Heap.get?_none_of_le (Nat.le_refl _),?_⟩) (fun r s' hr=>?_) fun _ _ z=>z))
 .rw[←e2];exact Heap.get?_push_of_some _ (by rw[←e1];exact Heap.get?_push_size _ rfl)
 .obtain⟨rfl,hq⟩:=hr
  wp_walk
  exact hq
theorem Aqt (F:ExcBaseFacts B newId initId bmB) (T:OwnTail h bmB tl) {Q:Value->Shared->Prop} (hC:h.get? C=some (excClassObj nm q C N bs tl hdct sn sub ab col dd k0 k1 k2 k3 k5 newId))
  (hn:h.Ns N mN) (hi:mN "__init__"=some (.ref fI)) (hf:h.get? fI=some oI) (hfc:oI.cls=.type "function") (hl:rest.length≤sizeLine)
  (go:∀h' e,Heap.MadeExcOf h h' e (.ref C) rest->wpAny (model prog w) (A.under (.builtin "type.__call__" ⟨.ref C::rest,[]⟩)) (call (.ref fI) (.ref e::rest)) (fun r s'=>r=.none∧Q (.ref e) s') E ⟨h',g,d,t,os⟩) :
  wpAny (model prog w) A (call (.ref C) rest) Q E ⟨h,g,d,t,os⟩:=by
 have l1:=tc_lookup
 have l2:=tc_bind (.ref C)
 have ty:(⟨h,g,d,t,os⟩:Shared).TypeIs (.ref C) "type":=⟨_,hC,rfl⟩
 refine wpAny_call (codeAny_of_tree (show wpAny _ _ (callAny (.ref C) _) _ _ _ from ?_))
 repeat (any_goals (first|assumption|(with_reducible refine wpAny_loadPart_at hC ?_)|wp_step))
 exact⟨rfl,codeAny_call_builtin_at (Code.quiet_builtin _ (by decide +kernel)) entry_typeCall (wpAny_check_type_call_sub hC (Aqs F T hC hn hi hf hfc hl fun h' e hm=>go h' e hm))⟩
end
section
variable {prog:Program} {w:World} {A:Around} {E:Value->Shared->Prop} {s:Shared} {K:PySem.W.Frag} {x C:Addr} {o:Obj} {name:Str} {v:Value} {cd:ClassData} {own:List Value}
open PySem.W PySem.Builtin PySem.Builtin.ObjectAttr in
theorem Zf (self:Value):∀{own:List Value},(own.all fun a=>match a with|.ref _=>true|_=>false)=true->refuseLoop self "__setattr__" (own ++ Wg)=pure ()
 |[],_=>PySem.F.store_ValueError.passes self
 |.ref a::r,h=>by
  rw[List.cons_append,refuseLoop_ref]
  exact Zf self (by simpa using h)
open PySem.W PySem.Builtin PySem.Builtin.ObjectAttr in
theorem Awa {Q:Unit->Shared->Prop} (X:K.In s.heap) (hx:s.heap.get? x=some o) (hc:o.cls=.ref C) (hdn:o.dict=none) (hnc:∀c,o.data≠.cls c) (hcd:clsIn K C=some cd) (hm:cd.mro=own ++ Wg)
  (ho:(own.all fun a=>match a with|.ref _=>true|_=>false)=true) (hd:cd.hasDict=true) (hs:findIn K (.ref C) "__setattr__"=some (some (.builtin "object.__setattr__"))) (hn:findIn K (.ref C) name=some none) (hb:mroIn K C (.type "object")=some true)
  (h:∀d h' tk,s.heap.get? d=none->d≠x->h'.get? x=some { o with dict:=some d }->h'.Ns1 d (fun y=>if y=name then some v else none)->(∀b ob,b≠x->s.heap.get? b=some ob->h'.get? b=some ob)->Q () { s with heap:=h',toks:=tk }) :
  wpAny (model prog w) A (setAttr (.ref x) name v) Q E s:=by
 have I:InstAt s.heap x o C none:=⟨hx,hc,by unfold notCls;split <;> first|(rename_i z;exact absurd z (hnc _))|rfl,by rw[hdn];exact True.intro⟩
 refine set_plain X I hs ?_
 obtain⟨hh,g,dr,tk0,os⟩:=s
 dsimp only at X hx I h ⊢
 have SF:=PySem.F.store_ValueError
 have sub:Looks (model prog w) hh (isInstance (.ref x) (.type "object")) true:=I.type.andThen (looks_mroIn X hb)
 refine codeAny_call_builtin SF.slot.plain SF.entry (@check_slot (model prog w) _ _ ⟨hh,g,dr,tk0+1,os⟩ "object.__setattr__" "object" "__setattr__" (.ref x) [.str name tk0,v] [] _ SF.kind SF.split sub (SF.args (.ref x) (.str name tk0) v) ?_)
 have lm:Looks (model prog w) hh (mroOf (.ref C)) cd.mro:=(looks_clsIn X hcd).andThen .now
 rw[osa_eq,refuse_eq]
 refine wpAny_bind (wpAny_bind (I.type.here (wpAny_bind (lm.here ?_))))
 rw[hm,Zf _ ho]
 refine wpAny_pure (wpAny_bind (I.type.here (wpAny_bind ((looks_findIn X hn).here (wpAny_bind (wpAny_pure ?_))))))
 show wpAny _ _ (storeInOwnDict (.ref x) (.ref C) (.str name tk0) name v false) _ _ _
 unfold storeInOwnDict
 repeat (first|(with_reducible refine wpAny_loadPart_at hx ?_;rw[hc])|wp_step)
 unfold clsIn at hcd
 split at hcd
 .rename_i c0 dd cd0 sl0 hK
  cases hcd
  refine wpAny_load (X _ _ hK) (wpAny_pure ?_)
  have td:typeHasDict (Value.ref C)=true:=by simp[typeHasDict]
  simp only[hd,hdn,td,Bool.not_true,Bool.false_eq_true,if_false,Bool.or_false]
  .have hx1:(hh.push { cls:=.type "dict",data:=.dict #[] }).get? x=some o:=Heap.get?_push_of_some _ hx
   have ne:x≠hh.objs.size:=Nat.ne_of_lt (Heap.lt_size hx)
   refine wpAny_bind (wpAny_alloc' ?_)
   refine wpAny_bind (wpAny_update' hx1 ?_)
   refine wpAny_pure ?_
   generalize e2:((hh.push { cls:=.type "dict",data:=.dict #[] }).update x fun o=>{ cls:=o.cls,dict:=some hh.objs.size,data:=o.data,slots:=o.slots })=h2
   have g2:h2.get? hh.objs.size=some { cls:=.type "dict",data:=.dict #[] }:=by
    rw[←e2,Heap.get?_update_ne _ _ _ _ ne.symm]
    exact Heap.get?_push_size _ rfl
   have x2:h2.get? x=some { o with dict:=some hh.objs.size }:=by
    rw[←e2]
    refine Heap.get?_update_self _ hx1 ?_
    have fr:=(Heap.get?_some_iff.mp hx).2
    obtain⟨oc,od,odt,osl⟩:=o
    cases odt <;> first|rfl|exact fr
   have n2:h2.Ns hh.objs.size (fun _=>none):=⟨_,#[],_,g2,rfl,fun e he=>absurd he (by simp),fun _=>rfl⟩
   show wpAny _ _ (storeInDict hh.objs.size (.str name tk0) name v) _ _ _
   unfold storeInDict newKeyGuard
   refine wpAny_bind (wpAny_pure (wpAny_bind (wpAny_nsSet1 (Heap.Ns1.of_empty n2) fun h' hn' hs'=>?_)))
   obtain⟨oD,esD,epD,hoD,hdD,hcD⟩:=hn'.count (Within.cons name v Within.nil)
   refine wpAny_bind (wpAny_lookBehind hoD (by rw[hdD];exact pastItsLine_dict (Nat.le_trans hcD (by rw[List.length_cons,List.length_nil,sizeLine_eq];omega))) ?_)
   wp_walk
   refine h hh.objs.size h' _ (Heap.get?_none_of_le (Nat.le_refl _)) ne.symm ((hs'.2 x ne).trans x2) hn' fun b ob hb q=>?_
   refine(hs'.2 b (Nat.ne_of_lt (Heap.lt_size q))).trans ?_
   rw[←e2,Heap.get?_update_ne _ _ _ _ hb]
   exact Heap.get?_push_of_some _ q
 .cases hcd
end
abbrev Wl (C:Addr) (od:Option Addr) (t:Addr):Obj:={ cls:=.ref C,dict:=od,data:=.fields #[.ref t,.none,.none,.none,.bool false,.none] }
section
variable {prog:Program} {w:World} {A:Around} {E:Value->Shared->Prop} {h:Heap} {g:Array GenState} {d:Drawn} {t:Nat} {os:OsState}
variable {nm q:Str} {C N e t0:Addr} {bs tl bmB:List Value} {hdct:Bool} {sn:List Str} {sub:List Value} {ab:Bool} {col:Option Bool} {dd od:Option Addr} {k0 k1 k2 k3 k5:Option Value} {B newId initId:String} {rest:List Value}
theorem Aqu (F:ExcBaseFacts B newId initId bmB) (T:OwnTail h bmB tl) {Q:Value->Shared->Prop} (hC:h.get? C=some (excClassObj nm q C N bs tl hdct sn sub ab col dd k0 k1 k2 k3 k5 newId)) (he:h.get? e=some (Wl C od t0)) (hl:rest.length≤sizeLine)
  (go:∀h' t',h'.get? e=some (Wl C od t')->(∀b ob,b≠e->h.get? b=some ob->h'.get? b=some ob)->Q .none ⟨h',g,d,t,os⟩) :
  wpAny (model prog w) A (call (.builtin initId) (.ref e::rest)) Q E ⟨h,g,d,t,os⟩:=by
 refine wpAny_call (codeAny_call_builtin F.init.plain F.initEntry (wpAny_check_init_subT F T hC he rfl ?_))
 have ne:e≠h.objs.size:=Nat.ne_of_lt (Heap.lt_size he)
 wp_walk
 refine go _ h.objs.size ?_ fun b ob hb q=>?_
 .rw[Heap.get?_update_self _ (Heap.get?_push_of_some _ he) rfl]
  rfl
 .rw[Heap.get?_update_other _ _ hb.symm]
  exact Heap.get?_push_of_some _ q
end
def Aa5 (K:PySem.W.Frag) (C fI:Addr):Bool:=match K.lookup C with
 |some ⟨.type "type",_,.cls cd,sl⟩=>(match cd.mro,sl.toList with
  |.ref C'::tl,[_,_,_,_,some (.builtin n),_]=>(C'==C&&n=="ValueError.__new__"&&!cd.hasDel)&&(PySem.W.tailIn K Wg tl&&PySem.W.nsOkIn K cd.ns)&&PySem.W.nsIn K cd.ns "__init__"==some (some (.ref fI))
  |_,_=>false)
 |_=>false
theorem Afu {K:PySem.W.Frag} {h:Heap} {N:Addr} {m:Str->Option Value} {n:Str} {v:Value} (X:K.In h) (G:h.Ns N m) (e:PySem.W.nsIn K N n=some (some v)):m n=some v:=by
 obtain⟨o,es,ep,ho,hd,_,hf⟩:=G
 unfold PySem.W.nsIn at e
 split at e
 .rename_i q
  have z:=X _ _ q
  rw[ho] at z
  cases z
  cases hd
  split at e
  .rename_i en he
   cases e
   rw[←hf]
   unfold nsFind findBy
   rw[←Array.find?_toList,he]
   rfl
  .split at e <;> cases e
 .cases e
theorem Amd {K:PySem.W.Frag} {h:Heap} {C fI:Addr} (X:K.In h) (q:Aa5 K C fI=true) :
  ∃tl N nm qn bs hdct sn sub ab col dd k0 k1 k2 k3 k5 mN,h.get? C=some (excClassObj nm qn C N bs tl hdct sn sub ab col dd k0 k1 k2 k3 k5 "ValueError.__new__")∧h.Ns N mN∧mN "__init__"=some (.ref fI)∧OwnTail h Wg tl:=by
 unfold Aa5 at q
 split at q
 .rename_i dd cd sl ho
  split at q
  .rename_i C' tl k0 k1 k2 k3 n k5 hm hs
   simp only[Bool.and_eq_true,beq_iff_eq,Bool.not_eq_true'] at q
   obtain⟨⟨⟨⟨rfl,rfl⟩,hdel⟩,ht,hok⟩,hni⟩:=q
   obtain⟨nm,bs,mro,ns,qn,hd,sn,sub,ab,col,del⟩:=cd
   dsimp only at hm hdel hok hni
   subst hm hdel
   obtain⟨l⟩:=sl
   dsimp only at hs
   subst hs
   have nsq:h.Ns ns (h.nsMap ns):=.of_isNs (PySem.W.isNs_of_in X hok)
   exact⟨tl,ns,nm,qn,bs,hd,sn,sub,ab,col,dd,k0,k1,k2,k3,k5,_,X _ _ ho,nsq,Afu X nsq hni,PySem.W.tail_of_in X ht⟩
  .cases q
 .cases q
structure XsK (K:PySem.W.Frag) (C:Addr) (f:Str):Prop where
 cls:∃cd own,PySem.W.clsIn K C=some cd∧cd.mro=own ++ Wg∧(own.all fun a=>match a with|.ref _=>true|_=>false)=true∧cd.hasDict=true
 sa:PySem.W.findIn K (.ref C) "__setattr__"=some (some (.builtin "object.__setattr__"))
 no:PySem.W.findIn K (.ref C) f=some none
 ob:PySem.W.mroIn K C (.type "object")=some true
structure XbK (K:PySem.W.Frag) (B:Addr):Prop where
 g:PySem.W.specialIn K (.ref B) "__getattribute__"=some (some (.builtin "type.__getattribute__"))
 r:PySem.W.readsIn K B (.type "type")=true
 f:PySem.W.findCls K (.ref B) (.type "type") "__init__"=some (.val (.builtin "ValueError.__init__"))
def Lb (e C:Addr) (od:Option Addr):HO:=.ext fun h=>∃t,h.get? e=some (Wl C od t)
theorem Aa6 {P:Program} {w:World} {H:Hp} {h:Heap} {e C t:Addr} {od:Option Addr} (q:h.get? e=some (Wl C od t)):Dc P w H h e (Lb e C od):=
 ⟨⟨t,q⟩,⟨_,q⟩,fun _ _ ⟨t',p⟩ k=>⟨t',k _ p⟩⟩
theorem Ajo {o:Expr} {name:Str} {apos pos:Pos} {args:List Expr} {env:Env} (hbase:attributeBase o name env (eval o env)=eval o env) (few:methodCallForm args.length (backTo pos (starEach args env)) (backToKw pos (keywordEach [] env))=true) (hline:(apos.endLine==pos.line)=true) :
  eval (.Call (.Attribute o name apos) args [] pos) env=(do
   let ov←eval o env
   standAt apos.atName
   let (f,first)←holding [ov] (getMethod ov name (do return (←importBound o env).getD true))
   callWith pos f first (backTo pos (starEach args env)) (backToKw pos (keywordEach [] env))):=by
 have e:eval (.Call (.Attribute o name apos) args [] pos) env=(do
   let ov←attributeBase o name env (eval o env)
   standAt apos.atName
   methodCall o name apos pos env ov args.length (backTo pos (starEach args env)) (backToKw pos (keywordEach [] env))):=rfl
 rw[e,hbase]
 unfold methodCall calleeOf methodCallPos
 rw[few,hline]
 rfl
def Awb (K:PySem.W.Frag) (ta:TA):TE:=fun σ H Q=>ta σ H fun vs H1=>∃e C fI od rest,vs=.ref e::rest∧H1 e=some (Lb e C od)∧Aa5 K C fI=true∧rest.length≤sizeLine∧Q .non H1
def Azr (K:PySem.W.Frag) (ta tv:TE) (f:Str):TS:=fun D σ H=>tv σ H fun _ H1=>ta σ H1 fun x H2=>∃e C,x=.ref e∧H2 e=some (Lb e C none)∧XsK K C f∧∀d,D.nx σ (upd H2 e (Lb e C (some d)))
section
variable {X:Cx} {x f:Str} {np apos pos pos':Pos} {o value e₀:Expr} {es:List Expr} {ta tv:TE} {ts:TA} {B:Addr}
theorem Ame (hg:Gl X x) (hm:X.mg x=some (.ref B)) (b:XbK X.K B) (ha:PA X (e₀::es) ts) (hd:(x==("__debug__":Str))=false)
  (hst:starEach (e₀::es) X.env=(false,eval e₀ X.env)::starEach es X.env) (hpl:(backTo pos (starEach es X.env)).any (·.1)=false)
  (few:methodCallForm (e₀::es).length (backTo pos (starEach (e₀::es) X.env)) (backToKw pos (keywordEach [] X.env))=true) (hline:(apos.endLine==pos.line)=true) :
  PE X (.Call (.Attribute (.Name x np) "__init__" apos) (e₀::es) [] pos) (Awb X.K ts):=by
 intro pins s σ H Q I h
 refine PySem.W.methodCall_KW (Ov I hg hm ?_ hd) (Ajo rfl few hline)
 refine PySem.W.method_cls I.kIn b.g (PySem.W.cls_value I.kIn b.r b.f rfl ?_)
 have I0:=I.tok (s.toks+1)
 have hA:=ha pos pins _ σ H _ I0 h
 rw[hst] at hA ⊢
 refine Calls.callWith_builtin (by show (false||(backTo pos (starEach es X.env)).any (·.1))=false;rw[hpl] <;> rfl) (Calls.evalArgs_plain ?_)
 refine thn hA fun us s2 ⟨vs,H2,I2,r2,e,C,fI,od,rest,ev,he,hx,hl,q⟩=>?_
 subst ev
 cases r2 with
 |@cons _ u _ ur ru rr=>
  obtain rfl:u=Value.ref e:=ru
  obtain⟨⟨t,q1⟩,_,_⟩:=(show Dc X.prog X.w H2 s2.heap e (Lb e C od) from I2.hok e _ he)
  obtain⟨hh,g,dr,tk,os⟩:=s2
  obtain⟨tl,N,nm,qn,bs,hdct,sn,sub,ab,col,dd,k0,k1,k2,k3,k5,mN,hC,hN,hni,T⟩:=Amd I2.kIn hx
  refine Aqu PySem.F.excBase_ValueError T hC q1 (by rw[←rr.length];exact hl) fun h' t' q2 k=>?_
  have I3:Inv X pins σ (upd H2 e (Lb e C od)) ⟨h',g,dr,tk,os⟩:=I2.write (x:=e) (e:=e) (t':=tk) (by rw[he];exact True.intro) (.inl rfl) k ⟨_,q2⟩ (Aa6 q2)
  have eH:upd H2 e (Lb e C od)=H2:=funext fun b=>by
   by_cases hb:b=e
   .subst hb;rw[Bo,he]
   .rw[Bb hb]
  rw[eH] at I3
  exact⟨.non,H2,I3,rfl,q⟩
theorem Aqv (ho:PE X o ta) (hv:PE X value tv) (hs:swapsWith value (some (.Attribute o f pos')) pos.line X.env=pure false):PS X (.Assign [.Attribute o f pos'] value pos) (Azr X.K ta tv f):=by
 intro pins s σ H D I h
 refine plainObj_wpAny_Assign_Attribute (thn (hv pins s σ H _ I h) fun u s1 ⟨y,H1,I1,ry,q⟩=>thn (ho pins s1 σ H1 _ I1 q) fun ov s2 ⟨x,H2,I2,rx,e,C,ex,he,k,q2⟩=>?_) hs
 subst ex
 obtain rfl:ov=Value.ref e:=rx
 obtain⟨⟨t,q1⟩,_,_⟩:=(show Dc X.prog X.w H2 s2.heap e (Lb e C none) from I2.hok e _ he)
 obtain⟨cd,own,c1,c2,c3,c4⟩:=k.cls
 refine Awa I2.kIn q1 rfl rfl (fun c z=>by cases z) c1 c2 c3 c4 k.sa k.no k.ob fun d h' tk hd ne q3 hns kp=>?_
 have I3:=I2.write (x:=e) (e:=e) (h':=h') (t':=tk) (o:=Lb e C (some d)) (by rw[he];exact True.intro) (.inl rfl) kp ⟨_,q3⟩ (Aa6 (t:=t) q3)
 exact⟨σ,_,I3,q2 d⟩
end
def Ajp (C:Addr):Sp:=fun vs H Q _=>∃e n u,vs=[.ref e,n,u]∧H e=some (Lb e C none)∧∀d,Q .non (upd H e (Lb e C (some d)))
section
variable {P:Program} {w:World} {K:PySem.W.Frag} {mg:Str->Option Value} {base:Heap}
theorem Azs {cm:Bool} {x qual B fld a b c:Str} {st:Stmt} {f C Ba fI:Addr} {fd:FuncData} {k:Nat} {np ap p1 p2 cp xp p3 p4 p5 sp':Pos} (F:Fun K x qual st f fd) (Sc:Bg [a,b,c] [a,b,c] (Ad st))
  (hb:An st=[.Expr (.Call (.Attribute (.Name B np) "__init__" ap) [.Name a p1,.Name c p2] [] cp) xp,.Assign [.Attribute (.Name a p3) fld p4] (.Name b p5) sp'])
  (hm:mg B=some (.ref Ba)) (xb:XbK K Ba) (xs:XsK K C fld) (xi:Aa5 K C fI=true) (hg:(Ad st).names.lookup B=some .globalImplicit)
  (va:Afp (Ad st) a=true) (vb:Afp (Ad st) b=true) (vc:Afp (Ad st) c=true)
  (dB:(B==("__debug__":Str))=false) (dd:([a,b,c].all fun y=>!(y==("__debug__":Str))&&!(y==("__classdict__":Str)))=true) (hl:(ap.endLine==cp.line)=true):Ib P w K mg base (CXo P w) (k+1) f fd [a,b,c] (Ajp C) cm:=by
 simp only[List.all_cons,List.all_nil,Bool.and_true,Bool.and_eq_true,Bool.not_eq_true'] at dd
 obtain⟨⟨a1,a2⟩,⟨b1,b2⟩,c1,c2⟩:=dd
 refine Fun.okX F Sc (fun vs H Q E h=>?_) fun cdv A outer s H vs Q E rm h=>?_
 .obtain⟨e,n,u,rfl,_⟩:=h;rfl
 .obtain⟨e,n,u,rfl,he,q⟩:=h
  rw[hb]
  refine⟨_,Acp (Ag7 (Ame (x:=B) (B:=Ba) hg hm xb (Vl (V5 (i:=0) rfl (Wi va) a1 a2) (Vl (V5 (i:=2) rfl (Wi vc) c1 c2) Afh rfl) rfl) dB rfl rfl rfl hl) rfl)
   (Apa (Aqv (V5 (i:=0) rfl (Wi va) a1 a2) (V5 (i:=1) rfl (Wi vb) b1 b2) rfl)),?_⟩
  refine⟨_,rfl,_,rfl,e,C,fI,none,[u],rfl,he,xi,(by show 1≤sizeLine;decide),?_⟩
  refine⟨_,rfl,_,rfl,e,C,rfl,he,xs,fun d=>q d⟩
end
section
variable {X:Cx} {pins:List (Addr×Obj)} {σ:St} {H:Hp} {s:Shared} {h':Heap}
theorem Inv.madeX {e C:Addr} {args:List Value} (I:Inv X pins σ H s) (hx:Heap.MadeExcOf s.heap h' e (.ref C) args):Inv X pins σ (upd H e (Lb e C none)) { s with heap:=h' }:=by
 have ne:∀{b:Addr} {o:Obj},s.heap.get? b=some o->b≠e:=fun q z=>by rw[z,hx.new] at q;cases q
 have nt:∀{b:Addr} {u:HO},H b=some u->b≠e:=fun q=>by
  obtain⟨o,ho⟩:=(I.hok _ _ q).there
  exact ne ho
 obtain⟨t,he,_,_⟩:=hx.there
 refine I.step (s:=s) (g':=s.gens) (d':=s.drawn) (t':=s.toks) (h':=h') (ch:=[]) (fun _ z=>nomatch z) (fun b o _ _ _ q _=>hx.keeps b o q) (fun b o _ _ _ q _=>⟨o.slots,hx.keeps b o q⟩) (fun b o _ q n=>by rw[Bb (ne q)];exact n)
  (fun b o _ q=>⟨o,hx.keeps b o q⟩) (fun b xs q=>by rw[Bb (nt q)];exact q) (fun b o u q=>by rw[Bb (nt q)];exact q) (fun b ps q=>⟨#[],by rw[Bb (nt q),Array.append_empty];exact q⟩) (fun m hm=>hm.keeps hx.keeps) (fun a u q=>?_) I.bare
 by_cases ha:a=e
 .subst ha
  rw[Bo] at q;cases q
  exact Aa6 he
 .rw[Bb ha] at q
  exact(I.hok a u q).stay (fun b v _ z=>hx.keeps b v z) (fun b z=>by rw[Bb (nt z)];exact z) fun b xs z=>by rw[Bb (nt z)];exact z
end
section
variable {M:Model} {A:Around} {E:Value->Shared->Prop} {env:Env}
variable {nm q:Str} {C N:Addr} {bs tl:List Value} {hdct:Bool} {sn:List Str} {sub:List Value} {ab:Bool} {col:Option Bool} {dd:Option Addr} {k0 k1 k2 k3 k5:Option Value} {newId:String}
theorem Amf {s:Shared} {x:Sem Value} {Q:Flow->Shared->Prop} (hb:tl.contains (.type "BaseException")=true) (hh:A.handled=none)
  (h:wpAny M A x (fun v s1=>∃e od t,v=.ref e∧s1.heap.get? C=some (excClassObj nm q C N bs tl hdct sn sub ab col dd k0 k1 k2 k3 k5 newId)∧s1.heap.get? e=some (Wl C od t)∧E (.ref e) s1) E s) :
  wpAny M A (raiseStmt env (some x) none) Q E s:=by
 have has:(Value.ref C::tl).contains (.type "BaseException")=true:=by rw[List.contains_cons,hb,Bool.or_true]
 unfold raiseStmt
 refine wpAny_bind (wpAny_mono h (fun v s1 z=>?_) fun _ _ z=>z)
 obtain⟨e,od,t,rfl,hC,he,hE⟩:=z
 obtain⟨hp,g,d,tk,os⟩:=s1
 repeat (first|(with_reducible refine wpAny_loadPart_at he ?_)|(with_reducible refine wpAny_loadPart_at hC ?_)|(with_reducible refine wpAny_isSubtype_exc hC ?_;rw[has])|wp_step)
 exact wpAny_raiseNew_none hh hE
end
def Vn (X:Cx) (E:XK):Prop:=∀(pins:List (Addr×Obj)) (σ:St) (H:Hp) (s:Shared) (e C:Addr) (od:Option Addr),Inv X pins σ H s->X.s₀.heap.get? e=none->H e=some (Lb e C od)->(∀H',(∀b,b≠e->H' b=H b)->H' e=none->E (.ref C) none H')->X.xe (.ref e) s
def Aqw (ta:TA) (C:Addr) (dvs:List V) (E:XK):TS:=fun _ σ H=>ta σ H fun vs H1=>vs.length+dvs.length=2∧vs.length≤sizeLine∧E (.ref C) none H1
theorem Ajq {X:Cx} {E:XK} {x:Str} {C fI:Addr} {fd:FuncData} {ps:List Str} {k:Nat} {dvs:List V} {ds:List Value} {e₀:Expr} {es:List Expr} {ta:TA} {np cpos pos:Pos} (hx:Aa5 X.K C fI=true) (hk:PySem.W.keepIn X.K (.ref C)=true) (hft:PySem.W.typeIn X.K (.ref fI)=some (.type "function"))
  (hex:X.ex=[]) (hg:Gl X x) (hm:X.mg x=some (.ref C)) (hc:X.calm=true) (hR:Vn X E) (F:Ib X.prog X.w X.K X.mg X.base (CXo X.prog X.w) k fI fd ps (Ajp C) true) (hr:Ht (k+1) X.A true) (hb:Binds X.K fd ps ds) (hd:Vals dvs ds) (ha:PA X (e₀::es) ta)
  (hdb:(x==("__debug__":Str))=false) (he:starEach (e₀::es) X.env=(false,eval e₀ X.env)::starEach es X.env) (hpl:(backTo cpos (starEach es X.env)).any (·.1)=false) :
  PS X (.Raise (some (.Call (.Name x np) (e₀::es) [] cpos)) none pos) (Aqw ta C dvs E):=by
 intro pins s σ H D I h
 obtain⟨tl,N,nm,qn,bs,hdct,sn,sub,ab,col,dd,k0,k1,k2,k3,k5,mN,hC,hN,hni,T⟩:=Amd I.ok.mod.kin hx
 rw[arm_exec_Raise]
 refine wpAny_bind (wpAny_standAt (Amf (C:=C) (nm:=nm) (q:=qn) (N:=N) (bs:=bs) (tl:=tl) (hdct:=hdct) (sn:=sn) (sub:=sub) (ab:=ab) (col:=col) (dd:=dd) (k0:=k0) (k1:=k1) (k2:=k2) (k3:=k3) (k5:=k5) (newId:="ValueError.__new__") (T.hasType PySem.F.excBase_ValueError.hasBase) (I.ok.hd hc) ?_))
 refine wpAny_bind (wpAny_Call_Name_kw (Ov I hg hm ?_ hdb))
 refine PySem.W.callWith_K (h₀:=X.base) I.ok.mod.kin hk (thn (ha cpos pins s σ H _ I h) fun us s1 ⟨vs,H1,I1,r,hl,hz,q⟩=>⟨I1.kIn,?_⟩) he hpl
 obtain⟨oI,lI,cI⟩:∃oI,X.K.lookup fI=some oI∧oI.cls=.type "function":=by
  have hft:Option.map (fun o:Obj=>o.cls) (X.K.lookup fI)=some (.type "function"):=hft
  cases z:X.K.lookup fI with
  |none=>rw[z] at hft;cases hft
  |some o=>rw[z] at hft;exact⟨o,rfl,Option.some.inj hft⟩
 obtain⟨hh,g,dr,tk,os⟩:=s1
 refine Aqt PySem.F.excBase_ValueError (T.keeps I1.bk) (I1.bk _ _ hC) (hN.keeps I1.bk) hni (I1.kIn _ _ lI) cI (by simp only[List.nil_append];rw[←r.length];exact hz) fun h' e hmade=>?_
 have I2:=I1.madeX hmade
 have r2:Vals (V.ref e::(vs ++ dvs)) (Value.ref e::(us ++ ds)):=.cons rfl (r.append hd)
 obtain⟨n,u,hnu⟩:∃n u,vs ++ dvs=[n,u]:=by
  have z:(vs ++ dvs).length=2:=by rw[List.length_append];exact hl
  match vs ++ dvs,z with
  |[n,u],_=>exact⟨n,u,rfl⟩
 have hsp:Ajp C (V.ref e::(vs ++ dvs)) (upd H1 e (Lb e C none)) (fun v H2=>v=.non∧∃d,H2=upd (upd H1 e (Lb e C none)) e (Lb e C (some d))) (fun _ _ _=>False):=⟨e,n,u,by rw[hnu],Bo,fun d=>⟨rfl,d,rfl⟩⟩
 have hlen:(Value.ref e::us ++ ds).length=ps.length:=by
  have z:=r2.length
  rw[F.len _ _ _ _ hsp] at z
  exact z.symm
 refine wpAny_call (codeAny_mono (F.run _ X.stack _ _ ⟨Value.ref e::us,[]⟩ (Value.ref e::(us ++ ds)) _ _ _ (hr.make C us []) (I2.env0.make C us []) (hb _ (Value.ref e::us) I2.kIn hlen) r2 hsp) fun rr s' hq=>?_)
 match rr,hq with
 |.error e',hq=>obtain⟨_,_,_,_,_,z⟩:=hq;exact z.elim
 |.ok (.ret v),hq=>
  obtain⟨v',H',I3,rv,ev,d,eH⟩:=I2.after hq
  subst ev
  refine⟨rv,wpAny_bind (wpAny_standAt (wpAny_pure ?_))⟩
  have he3:H' e=some (Lb e C (some d)):=by rw[eH,Bo]
  obtain⟨⟨t,q1⟩,_,_⟩:=(show Dc X.prog X.w H' s'.heap e (Lb e C (some d)) from I3.hok e _ he3)
  have h1e:H1 e=none:=by
   cases z:H1 e with
   |none=>rfl
   |some o=>
    obtain⟨ob,hob⟩:=(I1.hok e o z).there
    rw[hmade.new] at hob;cases hob
  refine⟨e,some d,t,rfl,I3.bk _ _ hC,q1,hR pins σ H' s' e C (some d) I3 ?_ he3 fun H'' hk' hn=>?_⟩
  .cases z:X.s₀.heap.get? e with
   |none=>rfl
   |some o=>
    obtain⟨o',z1⟩:=I1.base.there e o z (by rw[hex];simp)
    rw[hmade.new] at z1;cases z1
  .have eq:H''=H1:=funext fun b=>by
    by_cases hb':b=e
    .rw[hb',hn,h1e]
    .rw[hk' b hb',eH,Bb hb',Bb hb']
   rw[eq];exact q
section
variable {X:Cx} {pins:List (Addr×Obj)} {σ:St} {H:Hp} {s:Shared}
def Ac8 (H:Hp) (e:Addr):Hp:=fun b=>if b=e then none else H b
theorem Jd {e b:Addr} (h:b≠e):Ac8 H e b=H b:=if_neg h
theorem Qe {e:Addr}:Ac8 H e e=none:=if_pos rfl
theorem Wn {e b:Addr} {u:HO} (h:Ac8 H e b=some u):b≠e∧H b=some u:=by
 by_cases hb:b=e
 .rw[hb,Qe] at h;cases h
 .rw[Jd hb] at h;exact⟨hb,h⟩
theorem Inv.fly_held (I:Inv X pins σ H s) (hstk:X.stack=X.env::X.outer) (hfr:X.env.frame=some X.env.locals) (hex:X.ex=[]) {e C:Addr} {od:Option Addr} (h0:X.s₀.heap.get? e=none) (he:H e=some (Lb e C od)) {M:Model} {Q:Unit->Shared->Prop} {E:Value->Shared->Prop}
  (k:∀h'':Heap,Fly X.prog X.w X.outer X.H₀ X.s₀ (Ac8 H e) e (.ref C) { s with heap:=h'' }->Q () { s with heap:=h'' }):wpAny M X.A (leaving X.env (.ref e)) Q E s:=by
 obtain⟨⟨t,ho⟩,_,_⟩:=(show Dc X.prog X.w H s.heap e (Lb e C od) from I.hok e _ he)
 have hin:∀env∈X.stack,∀a,env.frame=some a->a∈e::frs X.stack:=fun env z a ha=>List.mem_cons_of_mem _ (List.mem_filterMap.mpr ⟨env,z,ha⟩)
 have ff:s.heap.FunFrames (PySem.W.hideAll s.heap (e::frs X.stack)) (X.env::X.outer):=by rw[←hstk];exact PySem.W.funFrames_hide I.stack hin
 have noex:∀b,b∉X.ex:=fun b z=>by rw[hex] at z;exact absurd z (by simp)
 have estk:e∉frs X.stack:=fun z=>by
  have n:=I.stkFree e z
  rw[he] at n;cases n
 have hid:(PySem.W.hideAll s.heap (e::frs X.stack)).get? e=none:=PySem.W.hideAll_none _ List.mem_cons_self
 refine wpAny_leaving_firstW (base:=PySem.W.hideAll s.heap (e::frs X.stack)) (a0:=.ref t) (by rw[I.ok.frames,hstk]) ff hfr ho (fun b o z=>PySem.W.of_hideAll _ z) hid rfl rfl rfl fun h'' hL=>k h'' ?_
 obtain⟨x1,⟨_,_,x2⟩,x3,x4⟩:=hL
 have keepB:∀b o,s.heap.get? b=some o->b∉frs X.stack->b≠e->h''.get? b=some o:=fun b o q n z=>x1 b o (PySem.W.hideAll_get _ q (by simp[n,z]))
 have frm:∀b o,s.heap.get? b=some o->b∈frs X.stack->∃sl,h''.get? b=some { o with slots:=sl }:=fun b o q hb=>by
  obtain⟨_,o',q',nf⟩:=I.stack.mem hb
  rw[q] at q';cases q'
  exact x4 b o q nf
 have ne0:∀{b:Addr} {o:Obj},X.s₀.heap.get? b=some o->b≠e:=fun q z=>by rw[z,h0] at q;cases q
 refine⟨I.os,I.bare,⟨fun b o q n hb _=>?_,fun b o q n hb _=>?_,fun b o q n _=>?_,fun b o q _=>?_,fun b xs q=>?_,fun b o u q=>?_,fun b ps q=>?_⟩,fun a u q=>?_,h0,Qe,?_⟩
 .exact keepB b o (I.base.keep b o q n hb (noex b)) (I.notStk q hb) (ne0 q)
 .obtain⟨sl,q1⟩:=I.base.slot b o q n hb (noex b)
  obtain⟨sl',q2⟩:=frm b _ q1 (I.fsStk hstk b hb)
  exact⟨sl',q2⟩
 .rw[Jd (ne0 q)];exact I.base.free b o q n (noex b)
 .obtain⟨o',q1⟩:=I.base.there b o q (noex b)
  by_cases hb:b∈frs X.stack
  .obtain⟨sl,q2⟩:=frm b o' q1 hb
   exact⟨_,q2⟩
  .exact⟨o',keepB b o' q1 hb (ne0 q)⟩
 .have z:=I.base.tups b xs q
  rw[Jd (fun w=>by rw[w,he] at z;cases z)];exact z
 .have z:=I.base.frzs b o u q
  rw[Jd (fun w=>by rw[w,he] at z;cases z)];exact z
 .obtain⟨m,z⟩:=I.base.tbls b ps q
  exact⟨m,by rw[Jd (fun w=>by rw[w,he] at z;cases z)];exact z⟩
 .obtain⟨ha,q⟩:=Wn q
  refine(I.hok a u q).stay (fun b v hb z=>keepB b v z (fun m=>?_) ?_) (fun b z=>?_) fun b xs z=>?_
  .have n:=I.stkFree b m
   rcases hb with rfl|hb
   .rw[n] at q;cases q
   .rw[n] at hb;cases hb
  .rcases hb with rfl|hb
   .exact ha
   .rintro rfl;rw[he] at hb;cases hb
  .rw[Jd (fun w=>by rw[w,he] at z;cases z)];exact z
  .rw[Jd (fun w=>by rw[w,he] at z;cases z)];exact z
 .refine⟨_,_,⟨x1,hid,x2,x3⟩,fun b o q n hb=>PySem.W.hideAll_get _ (I.base.keep b o q n hb (noex b)) (by simp[I.notStk q hb,ne0 q]),fun b o q hb=>?_,fun a u o q z=>?_⟩
  .obtain⟨o',q1⟩:=I.base.there b o q (noex b)
   exact⟨o',PySem.W.hideAll_get _ q1 (by simp[I.notStk q hb,ne0 q])⟩
  .obtain⟨ha,q⟩:=Wn q
   obtain⟨ob,q1⟩:=(I.hok a u q).there
   have q2:=PySem.W.hideAll_get (e::frs X.stack) q1 (by
    have n:a∉frs X.stack:=fun m=>by
     have n:=I.stkFree a m
     rw[n] at q;cases q
    simp[n,ha])
   have q3:=x1 a ob q2
   have z:h''.get? a=some o:=z
   rw[q3] at z;cases z
   exact q2
end
section
variable {P:Program} {w:World} {K:PySem.W.Frag} {mg:Str->Option Value} {base:Heap} {N:List Str} {qual:Str} {sc:Scope} {f:Addr} {cd:Value} {A:Around} {outer:List Env} {s₀:Shared} {H₀:Hp} {E:XK} {cm:Bool}
theorem Afv:Vn (P0 (CXo P w) P w K mg base N qual sc f cd A outer s₀ H₀ E cm) E:=fun pins σ H s e C od I h0 he q=>
 I.fly_held rfl rfl rfl h0 he fun h'' F=>⟨e,.ref C,Ac8 H e,rfl,F,q _ (fun b hb=>Jd hb) Qe⟩
end
end L2
namespace D
open PySem PySem.Spec PyProof.Rows L2
inductive W where
 |non
 |bl (b:Bool)
 |int (i:Int)
 |str (x:Str)
 |tup (ws:List W)
 |ref (n:Nat)
 |scr
 |ty (n:String)
 |cls (c:Nat)
 |exn (c:Nat) (w:W)
inductive Cell where
 |lst (ws:List W)
 |dct (kvs:List (Key×W))
 |ins (c:Nat) (fs:List (Str×W))
abbrev Store:=List Cell
inductive R (α:Type) where
 |ok (a:α) (S:Store)
 |exc (c:Nat×W) (S:Store)
 |bad
abbrev M (α:Type):=Store->R α
@[inline] def M.ret {α:Type} (a:α):M α:=fun S=>.ok a S
noncomputable def M.bind {α β:Type} (m:M α) (f:α->M β):M β:=fun S=>match m S with
 |.ok a S1=>f a S1
 |.exc c S1=>.exc c S1
 |.bad=>.bad
instance:Monad M where
 pure:=M.ret
 bind:=M.bind
def bad {α:Type}:M α:=fun _=>.bad
structure Th where
 K:PySem.W.Frag
 cl:Nat->Addr
 xf:Nat->Option Str
 l:Addr
 ns:List Int
def Scr (Θ:Th) (H:Hp):Prop:=(∃o,H Θ.l=some (.frz o (.lst (Θ.ns.map V.int))))∨
 ∃(o:Obj) (its:Array Value) (n:Nat),Θ.K.lookup Θ.l=some o∧o.cls=.type "list"∧o.dict=none∧o.data=.seq its n∧its.size≤sizeLine∧Vals (Θ.ns.map V.int) its.toList
theorem Scr.sq {Θ:Th} {H:Hp} (h:Scr Θ H):SqL Θ.K H Θ.l (Θ.ns.map V.int):=by
 rcases h with ⟨o,h⟩|h
 .exact .inl (.inr ⟨o,h⟩)
 .exact .inr h
def Bcb (a:Addr) (cls:Value) (d:Addr):HO:=.ext fun h=>∃o vs,h.get? a=some o∧o.cls=cls∧o.data=.fields vs∧o.dict=some d
mutual
inductive RV (Θ:Th) (ρ:List Addr) (H:Hp):W->V->Prop
 |non:RV Θ ρ H .non .non
 |bl (b:Bool):RV Θ ρ H (.bl b) (.bl b)
 |int (i:Int):RV Θ ρ H (.int i) (.int i)
 |str (x:Str):RV Θ ρ H (.str x) (.str x)
 |tup {a:Addr} {ws:List W} {vs:List V}:H a=some (.tup vs)->RVs Θ ρ H ws vs->RV Θ ρ H (.tup ws) (.ref a)
 |ref {n:Nat} {a:Addr}:ρ[n]?=some a->RV Θ ρ H (.ref n) (.ref a)
 |scr:Scr Θ H->RV Θ ρ H .scr (.ref Θ.l)
 |ty (n:String):RV Θ ρ H (.ty n) (.ty n)
 |cls (c:Nat):RV Θ ρ H (.cls c) (.ref (Θ.cl c))
 |exn {c:Nat} {w:W} {a:Addr}:Θ.xf c=none->a∉ρ->H a=some (Aav a (.ref (Θ.cl c)))->RV Θ ρ H (.exn c w) (.ref a)
 |exf {c:Nat} {w:W} {v:V} {a d:Addr} {n:Str}:Θ.xf c=some n->a∉ρ->d∉ρ->H a=some (Bcb a (.ref (Θ.cl c)) d)->H d=some (.xd [(n,v)])->RV Θ ρ H w v->RV Θ ρ H (.exn c w) (.ref a)
inductive RVs (Θ:Th) (ρ:List Addr) (H:Hp):List W->List V->Prop
 |nil:RVs Θ ρ H [] []
 |cons {w:W} {v:V} {ws:List W} {vs:List V}:RV Θ ρ H w v->RVs Θ ρ H ws vs->RVs Θ ρ H (w::ws) (v::vs)
end
structure Cu (ρ ρ':List Addr) (H H':Hp):Prop where
 t:∀b xs,H b=some (.tup xs)->H' b=some (.tup xs)
 f:∀b o u,H b=some (.frz o u)->H' b=some (.frz o u)
 k:∀b o,H b=some o->b∉ρ->H' b=some o
 n:∀b,b∈ρ'->b∈ρ∨H b=none
theorem Cu.refl (ρ:List Addr) (H:Hp):Cu ρ ρ H H:=⟨fun _ _ q=>q,fun _ _ _ q=>q,fun _ _ q _=>q,fun _ q=>.inl q⟩
theorem Cu.trans {ρ ρ1 ρ2:List Addr} {H H1 H2:Hp} (a:Cu ρ ρ1 H H1) (b:Cu ρ1 ρ2 H1 H2):Cu ρ ρ2 H H2 where
 t:=fun c xs q=>b.t c xs (a.t c xs q)
 f:=fun c o u q=>b.f c o u (a.f c o u q)
 k:=fun c o q m=>b.k c o (a.k c o q m) fun z=>by
  rcases a.n c z with z|z
  .exact m z
  .rw[q] at z;cases z
 n:=fun c m=>by
  rcases b.n c m with z|z
  .exact a.n c z
  .by_cases hc:c∈ρ
   .exact .inl hc
   .refine .inr ?_
    cases e:H c with
    |none=>rfl
    |some o=>rw[a.k c o e hc] at z;cases z
theorem Cu.out {ρ ρ':List Addr} {H H':Hp} (t:Cu ρ ρ' H H') {a:Addr} {o:HO} (h:H a=some o) (m:a∉ρ):a∉ρ':=fun z=>by
 rcases t.n a z with q|q
 .exact m q
 .rw[h] at q;cases q
theorem Scr.mono {Θ:Th} {ρ ρ':List Addr} {H H':Hp} (t:Cu ρ ρ' H H') (h:Scr Θ H):Scr Θ H':=by
 rcases h with ⟨o,h⟩|h
 .exact .inl ⟨o,t.f _ _ _ h⟩
 .exact .inr h
mutual
theorem RV.mono {Θ:Th} {ρ ρ':List Addr} {H H':Hp} (p:ρ <+: ρ') (t:Cu ρ ρ' H H'):∀{w:W} {v:V},RV Θ ρ H w v->RV Θ ρ' H' w v
 |_,_,.non=>.non
 |_,_,.bl b=>.bl b
 |_,_,.int i=>.int i
 |_,_,.str x=>.str x
 |_,_,.tup h r=>.tup (t.t _ _ h) (RVs.mono p t r)
 |_,_,.scr h=>.scr (h.mono t)
 |_,_,.ty n=>.ty n
 |_,_,.cls c=>.cls c
 |_,_,.exn x m h=>.exn x (t.out h m) (t.k _ _ h m)
 |_,_,.exf x m m' h h' r=>.exf x (t.out h m) (t.out h' m') (t.k _ _ h m) (t.k _ _ h' m') (RV.mono p t r)
 |_,_,.ref h=>.ref (by
  obtain⟨r,rfl⟩:=p
  obtain⟨hl,e⟩:=List.getElem?_eq_some_iff.mp h
  rw[List.getElem?_append_left hl]
  exact h)
theorem RVs.mono {Θ:Th} {ρ ρ':List Addr} {H H':Hp} (p:ρ <+: ρ') (t:Cu ρ ρ' H H'):∀{ws:List W} {vs:List V},RVs Θ ρ H ws vs->RVs Θ ρ' H' ws vs
 |_,_,.nil=>.nil
 |_,_,.cons h r=>.cons (RV.mono p t h) (RVs.mono p t r)
end
theorem RVs.length {Θ:Th} {ρ:List Addr} {H:Hp}:∀{ws:List W} {vs:List V},RVs Θ ρ H ws vs->ws.length=vs.length
 |_,_,.nil=>rfl
 |_,_,.cons _ r=>by rw[List.length_cons,List.length_cons,RVs.length r]
theorem RVs.get {Θ:Th} {ρ:List Addr} {H:Hp}:∀{ws:List W} {vs:List V} {i:Nat} {w:W},RVs Θ ρ H ws vs->ws[i]?=some w->∃v,vs[i]?=some v∧RV Θ ρ H w v
 |_,_,_,_,.nil,e=>by simp at e
 |_,_,0,_,.cons h _,e=>by simp at e;subst e;exact⟨_,rfl,h⟩
 |_,_,i+1,w,.cons _ r,e=>by
  obtain⟨v,h1,h2⟩:=RVs.get (i:=i) (w:=w) r (by simpa using e)
  exact⟨v,by simpa using h1,h2⟩
theorem RVs.append {Θ:Th} {ρ:List Addr} {H:Hp}:∀{ws us:List W} {vs zs:List V},RVs Θ ρ H ws vs->RVs Θ ρ H us zs->RVs Θ ρ H (ws ++ us) (vs ++ zs)
 |_,_,_,_,.nil,s=>s
 |_,_,_,_,.cons h r,s=>.cons h (RVs.append r s)
def RKV (Θ:Th) (ρ:List Addr) (H:Hp):List (Key×W)->List (Key×V)->Prop:=Paired fun p q=>p.1=q.1∧RV Θ ρ H p.2 q.2
def RFs (Θ:Th) (ρ:List Addr) (H:Hp):List (Str×W)->List (Str×V)->Prop:=Paired fun p q=>p.1=q.1∧RV Θ ρ H p.2 q.2
def Ld (Θ:Th) (ρ:List Addr) (H:Hp) (a:Addr):Cell->Prop
 |.lst ws=>∃vs,H a=some (.lst vs)∧RVs Θ ρ H ws vs
 |.dct kvs=>∃vs,H a=some (.dK vs)∧RKV Θ ρ H kvs vs
 |.ins c fs=>∃dx vs,H a=some (.ins (Θ.cl c) dx vs)∧RFs Θ ρ H fs vs
structure Rep (Θ:Th) (ρ:List Addr) (S:Store) (H:Hp):Prop where
 len:ρ.length=S.length
 nd:ρ.Nodup
 at_:∀(n:Nat) (a:Addr) (c:Cell),ρ[n]?=some a->S[n]?=some c->Ld Θ ρ H a c
def RSl (Θ:Th) (ρ:List Addr) (H:Hp):List (Option W)->List (Option V)->Prop:=fun δ σ=>∀(i:Nat) (w:W),δ[i]?=some (some w)->∃v,σ[i]?=some (some v)∧RV Θ ρ H w v
theorem RSl.mono {Θ:Th} {ρ ρ':List Addr} {H H':Hp} (p:ρ <+: ρ') (t:Cu ρ ρ' H H') {δ:List (Option W)} {σ:List (Option V)} (h:RSl Θ ρ H δ σ):RSl Θ ρ' H' δ σ:=fun i w e=>by
 obtain⟨v,h1,h2⟩:=h i w e
 exact⟨v,h1,h2.mono p t⟩
abbrev De:=List (Option W)
section
variable (Θ:Th)
def XP (ρ:List Addr) (H:Hp) (c:Nat×W) (E:XK):Prop:=match Θ.xf c.1 with
 |none=>E (.ref (Θ.cl c.1)) none H
 |some n=>∀d v,d∉ρ->H d=some (.xd [(n,v)])->RV Θ ρ H c.2 v->E (.ref (Θ.cl c.1)) (some d) H
def Ax {α β:Type} (Rel:List Addr->Hp->α->β->Prop) (ρ:List Addr) (H:Hp) (r:R α) (Q:β->Hp->Prop) (E:XK):Prop:=match r with
 |.ok w S'=>∀ρ' H' v,ρ <+: ρ'->Cu ρ ρ' H H'->Rep Θ ρ' S' H'->Rel ρ' H' w v->Q v H'
 |.exc c S'=>∀ρ' H',ρ <+: ρ'->Cu ρ ρ' H H'->Rep Θ ρ' S' H'->XP Θ ρ' H' c E
 |.bad=>False
def tF (E:L2.St->XK) (f:De->M W):TE:=fun σ H Q=>∃ρ S δ,Rep Θ ρ S H∧RSl Θ ρ H δ σ∧Ax Θ (RV Θ) ρ H (f δ S) Q (E σ)
def tFs (E:L2.St->XK) (f:De->M (List W)):TA:=fun σ H Q=>∃ρ S δ,Rep Θ ρ S H∧RSl Θ ρ H δ σ∧Ax Θ (RVs Θ) ρ H (f δ S) Q (E σ)
def tFb (E:L2.St->XK) (f:De->M Bool):TT:=fun σ H Q=>∃ρ S δ,Rep Θ ρ S H∧RSl Θ ρ H δ σ∧Ax Θ (fun _ _ a b=>a=b) ρ H (f δ S) Q (E σ)
def spF (g:List W->M W):Sp:=fun vs H Q E=>∃ρ S ws,Rep Θ ρ S H∧RVs Θ ρ H ws vs∧Ax Θ (RV Θ) ρ H (g ws S) Q E
end
section
variable {Θ:Th} {X:Cx} {e a b:Expr}
theorem WE.weak {t t':TE} (h:WE X e t) (k:∀σ H Q,t' σ H Q->t σ H Q):WE X e t':=⟨fun pins s σ H Q I q=>h.un pins s σ H Q I (k σ H Q q)⟩
theorem WA.weak {es:List Expr} {t t':TA} (h:WA X es t) (k:∀σ H Q,t' σ H Q->t σ H Q):WA X es t':=⟨fun pos pins s σ H Q I q=>h.un pos pins s σ H Q I (k σ H Q q)⟩
theorem WT.weak {t t':TT} (h:WT X e t) (k:∀σ H Q,t' σ H Q->t σ H Q):WT X e t':=⟨fun pins s σ H Q I q=>h.un pins s σ H Q I (k σ H Q q)⟩
theorem Ax.shift {α β:Type} {Rel:List Addr->Hp->α->β->Prop} {ρ ρ1:List Addr} {H H1:Hp} {Q:β->Hp->Prop} {E:XK}:∀{r:R α},Ax Θ Rel ρ H r Q E->ρ <+: ρ1->Cu ρ ρ1 H H1->Ax Θ Rel ρ1 H1 r Q E
 |.ok _ _,h,p,t=>fun ρ2 H2 v p2 t2 r2 q2=>h ρ2 H2 v (p.trans p2) (t.trans t2) r2 q2
 |.exc _ _,h,p,t=>fun ρ2 H2 p2 t2 r2=>h ρ2 H2 (p.trans p2) (t.trans t2) r2
 |.bad,h,_,_=>h
theorem Ax.seq {α β γ δ':Type} {Rel:List Addr->Hp->α->β->Prop} {Rel2:List Addr->Hp->γ->δ'->Prop} {ρ:List Addr} {H:Hp} {m:M α} {f:α->M γ} {S:Store} {Q:δ'->Hp->Prop} {E:XK} (h:Ax Θ Rel2 ρ H ((m >>= f) S) Q E) :
  Ax Θ Rel ρ H (m S) (fun v H1=>∃ρ1 S1 w,ρ <+: ρ1∧Cu ρ ρ1 H H1∧Rep Θ ρ1 S1 H1∧Rel ρ1 H1 w v∧Ax Θ Rel2 ρ1 H1 (f w S1) Q E) E:=by
 have h:Ax Θ Rel2 ρ H (M.bind m f S) Q E:=h
 unfold M.bind at h
 cases e:m S with
 |bad=>rw[e] at h;exact h
 |exc c S1=>rw[e] at h;exact h
 |ok w S1=>
  rw[e] at h
  exact fun ρ1 H1 v p t r rw'=>⟨ρ1,S1,w,p,t,r,rw',Ax.shift h p t⟩
theorem Ax.now {α β:Type} {Rel:List Addr->Hp->α->β->Prop} {ρ:List Addr} {H:Hp} {S:Store} {w:α} {v:β} {Q:β->Hp->Prop} {E:XK} (h:Ax Θ Rel ρ H ((pure w:M α) S) Q E) (r:Rep Θ ρ S H) (q:Rel ρ H w v):Q v H:=
 h ρ H v (List.prefix_refl ρ) (Cu.refl ρ H) r q
theorem Ax.mono {α β:Type} {Rel:List Addr->Hp->α->β->Prop} {ρ:List Addr} {H:Hp} {r:R α} {Q Q':β->Hp->Prop} {E:XK} (h:Ax Θ Rel ρ H r Q E) (k:∀v H',Q v H'->Q' v H'):Ax Θ Rel ρ H r Q' E:=by
 cases r with
 |ok w S'=>exact fun ρ' H' v p t r q=>k v H' (h ρ' H' v p t r q)
 |exc c S'=>exact h
 |bad=>exact h
theorem Nj {E:L2.St->XK} {f g:De->M W} {op:W->W->M W} {r:R2} (hop:∀ρ S H x y vx vy Q E,Rep Θ ρ S H->RV Θ ρ H x vx->RV Θ ρ H y vy->Ax Θ (RV Θ) ρ H (op x y S) Q E->r vx vy H Q) :
  ∀σ H Q,tF Θ E (fun δ=>do let x←f δ;let y←g δ;op x y) σ H Q->tOp r (tF Θ E f) (tF Θ E g) σ H Q:=by
 rintro σ H Q ⟨ρ,S,δ,R,sl,h⟩
 refine⟨ρ,S,δ,R,sl,(Ax.seq (Rel:=RV Θ) h).mono ?_⟩
 rintro vx H1 ⟨ρ1,S1,x,p1,t1,R1,rx,h1⟩
 refine⟨ρ1,S1,δ,R1,sl.mono p1 t1,(Ax.seq (Rel:=RV Θ) h1).mono ?_⟩
 rintro vy H2 ⟨ρ2,S2,y,p2,t2,R2,ry,h2⟩
 exact hop ρ2 S2 H2 x y vx vy Q (E σ) R2 (rx.mono p2 t2) ry h2
end
section
variable {Θ:Th} {ρ:List Addr} {S:Store} {H:Hp}
theorem Ld.there {a:Addr} {c:Cell} (h:Ld Θ ρ H a c):∃o,H a=some o:=by
 cases c with
 |lst ws=>obtain⟨vs,h,_⟩:=h;exact⟨_,h⟩
 |dct ws=>obtain⟨vs,h,_⟩:=h;exact⟨_,h⟩
 |ins c ws=>obtain⟨dx,vs,h,_⟩:=h;exact⟨_,h⟩
theorem Rep.get (R:Rep Θ ρ S H) {n:Nat} {c:Cell} (h:S[n]?=some c):∃a,ρ[n]?=some a∧Ld Θ ρ H a c:=by
 have hl:n < ρ.length:=by rw[R.len];exact(List.getElem?_eq_some_iff.mp h).1
 exact⟨ρ[n],List.getElem?_eq_getElem hl,R.at_ n _ c (List.getElem?_eq_getElem hl) h⟩
theorem Rep.tracked (R:Rep Θ ρ S H) {a:Addr} (h:a∈ρ):∃o,H a=some o:=by
 obtain⟨n,hn,rfl⟩:=List.getElem_of_mem h
 have hs:n < S.length:=by rw[←R.len];exact hn
 exact(R.at_ n _ _ (List.getElem?_eq_getElem hn) (List.getElem?_eq_getElem hs)).there
theorem Paired.imp2 {α β:Type} {F G:α->β->Prop} (f:∀a b,F a b->G a b) {l:List α} {m:List β} (r:Paired F l m):Paired G l m:=L2.Paired.mapP r f
theorem Ld.mono {ρ':List Addr} {H':Hp} {a:Addr} {c:Cell} (p:ρ <+: ρ') (t:Cu ρ ρ' H H') (k:H' a=H a) (h:Ld Θ ρ H a c):Ld Θ ρ' H' a c:=by
 cases c with
 |lst ws=>obtain⟨vs,h,r⟩:=h;exact⟨vs,k.trans h,r.mono p t⟩
 |dct ws=>obtain⟨vs,h,r⟩:=h;exact⟨vs,k.trans h,Paired.imp2 (fun _ _ z=>⟨z.1,z.2.mono p t⟩) r⟩
 |ins c ws=>obtain⟨dx,vs,h,r⟩:=h;exact⟨dx,vs,k.trans h,Paired.imp2 (fun _ _ z=>⟨z.1,z.2.mono p t⟩) r⟩
theorem Ce {ρ':List Addr} {p:Addr} {o:HO} (h:H p=none) (q:∀b,b∈ρ'->b∈ρ∨b=p:=by intro b hb;first|exact .inl hb|(rcases List.mem_append.mp hb with z|z;exact .inl z;exact .inr (List.mem_singleton.mp z))):Cu ρ ρ' H (upd H p o) where
 t:=fun b xs q=>by rw[Bb (Bt q h)];exact q
 f:=fun b o u q=>by rw[Bb (Bt q h)];exact q
 k:=fun b o q _=>by rw[Bb (Bt q h)];exact q
 n:=fun b m=>by
  rcases q b m with z|z
  .exact .inl z
  .subst z;exact .inr h
theorem Rep.beside {p:Addr} {o:HO} (R:Rep Θ ρ S H) (h:H p=none):Rep Θ ρ S (upd H p o) where
 len:=R.len
 nd:=R.nd
 at_:=fun n a c e1 e2=>by
  have q:=R.at_ n a c e1 e2
  obtain⟨u,hu⟩:=q.there
  exact q.mono (List.prefix_refl ρ) (Ce h) (Bb (Bt hu h))
theorem Rep.alloc {p:Addr} {o:HO} {c:Cell} (R:Rep Θ ρ S H) (h:H p=none) (q:Ld Θ (ρ ++ [p]) (upd H p o) p c):Rep Θ (ρ ++ [p]) (S ++ [c]) (upd H p o) where
 len:=by rw[List.length_append,List.length_append,R.len];rfl
 nd:=by
  rw[List.nodup_append]
  refine⟨R.nd,by simp,fun a ha b hb=>?_⟩
  obtain rfl:b=p:=by simpa using hb
  obtain⟨u,hu⟩:=R.tracked ha
  exact Bt hu h
 at_:=fun n a d e1 e2=>by
  by_cases hn:n < ρ.length
  .rw[List.getElem?_append_left hn] at e1
   rw[List.getElem?_append_left (by rw[←R.len];exact hn)] at e2
   have z:=R.at_ n a d e1 e2
   obtain⟨u,hu⟩:=z.there
   exact z.mono (List.prefix_append _ _) (Ce h) (Bb (Bt hu h))
  .have hl:=(List.getElem?_eq_some_iff.mp e1).1
   rw[List.length_append,List.length_singleton] at hl
   obtain rfl:n=ρ.length:=by omega
   rw[List.getElem?_append_right (Nat.le_refl _),Nat.sub_self] at e1
   rw[R.len,List.getElem?_append_right (Nat.le_refl _),Nat.sub_self] at e2
   obtain rfl:p=a:=by simpa using e1
   obtain rfl:c=d:=by simpa using e2
   exact q
theorem Jm {p:Addr}:(ρ ++ [p])[ρ.length]?=some p:=by simp
theorem Rep.write {n:Nat} {a:Addr} {o:HO} {c:Cell} (R:Rep Θ ρ S H) (hn:ρ[n]?=some a) (t:Cu ρ ρ H (upd H a o)) (q:Ld Θ ρ (upd H a o) a c):Rep Θ ρ (S.set n c) (upd H a o) where
 len:=by rw[List.length_set];exact R.len
 nd:=R.nd
 at_:=fun m b d e1 e2=>by
  by_cases hm:m=n
  .subst hm
   rw[hn] at e1
   cases e1
   have hl:m < S.length:=by rw[←R.len];exact(List.getElem?_eq_some_iff.mp hn).1
   rw[List.getElem?_set_self hl] at e2
   cases e2
   exact q
  .rw[List.getElem?_set_ne (Ne.symm hm)] at e2
   have ne:b≠a:=by
    rintro rfl
    obtain⟨h1,e1'⟩:=List.getElem?_eq_some_iff.mp e1
    obtain⟨h2,e2'⟩:=List.getElem?_eq_some_iff.mp hn
    exact hm ((List.getElem_inj R.nd).mp (e1'.trans e2'.symm))
   exact(R.at_ m b d e1 e2).mono (List.prefix_refl ρ) t (Bb ne)
theorem Wo {n:Nat} {a:Addr} {o u:HO} (hn:ρ[n]?=some a) (h:H a=some u) (n1:∀xs,u≠.tup xs) (n2:∀ob x,u≠.frz ob x):Cu ρ ρ H (upd H a o) where
 k:=fun b o q m=>by
  rw[Bb (by rintro rfl;exact m (List.mem_of_getElem? hn))]
  exact q
 n:=fun b m=>.inl m
 t:=fun b xs q=>by
  rw[Bb (by rintro rfl;rw[h] at q;exact n1 xs (Option.some.inj q))]
  exact q
 f:=fun b ob x q=>by
  rw[Bb (by rintro rfl;rw[h] at q;exact n2 ob x (Option.some.inj q))]
  exact q
end
def big:Nat:=1000000
theorem Ie {n:Nat} (h:n≤big):n≤sizeLine:=Nat.le_trans h (by decide)
def Bu (ws:List W):M W:=fun S=>if ws.length≤big then .ok (.ref S.length) (S ++ [.lst ws]) else .bad
def Aa7 (ws:List W):M W:=if ws.length≤big then pure (.tup ws) else bad
def addW:W->W->M W
 |.int i,.int j=>pure (.int (i+j))
 |.str x,.str y=>if x.length+y.length≤big then pure (.str (x ++ y)) else bad
 |.tup xs,.tup ys=>if !xs.isEmpty&&decide (xs.length+ys.length≤big) then pure (.tup (xs ++ ys)) else bad
 |.ref n,.ref m=>fun S=>match S[n]?,S[m]? with
  |some (.lst xs),some (.lst ys)=>if xs.length+ys.length≤big then .ok (.ref S.length) (S ++ [.lst (xs ++ ys)]) else .bad
  |_,_=>.bad
 |_,_=>bad
def small (i:Int):Bool:=decide (-(2 ^ 64) < i)&&decide (i < 2 ^ 64)
def Azt:W->W->M W
 |.int i,.int j=>pure (.int (i - j))
 |_,_=>bad
def Amg:W->W->M W
 |.int i,.int j=>if small i||small j then pure (.int (i * j)) else bad
 |.str z,.int n=>if decide (z.length≤16)&&decide (0≤n)&&decide (n≤1048576) then pure (.str (Txt.mul z n)) else bad
 |.ref n,.int k=>fun S=>match S[n]? with
  |some (.lst xs)=>if decide (-(2 ^ 63)≤k)&&decide (k < 2 ^ 63)&&decide (xs.length * k.toNat≤big) then .ok (.ref S.length) (S ++ [.lst (List.replicate k.toNat xs).flatten]) else .bad
  |_=>.bad
 |_,_=>bad
def Azu:W->W->M W
 |.int i,.int j=>if 0 < j then pure (.int (i % j)) else bad
 |_,_=>bad
section
variable {Θ:Th} {ρ:List Addr} {S:Store} {H:Hp} {x y:W} {vx vy:V} {Q:VK} {E:XK}
theorem Amh {α β:Type} {Rel:List Addr->Hp->α->β->Prop} {Q:β->Hp->Prop} (h:Ax Θ Rel ρ H ((bad:M α) S) Q E):False:=h
theorem Ay0 (R:Rep Θ ρ S H) (hx:RV Θ ρ H x vx) (hy:RV Θ ρ H y vy) (h:Ax Θ (RV Θ) ρ H (addW x y S) Q E) :
  (rI0 (fun i j=>V.int (i+j)) vx vy H Q∨(∃i j,vx=.str i∧vy=.str j∧i.length+j.length≤sizeLine∧Q (.str (i ++ j)) H))∨(At1 Θ.K vx vy H Q∨Azc vx vy H Q):=by
 cases hx <;> cases hy <;> first|exact(show False from h).elim|skip
 case int.int i j=>exact .inl (.inl ⟨_,_,rfl,rfl,h.now R (.int _)⟩)
 case str.str i j=>
  simp only[addW] at h
  split at h
  .rename_i hz
   exact .inl (.inr ⟨_,_,rfl,rfl,Ie hz,h.now R (.str _)⟩)
  .exact(Amh h).elim
 case tup.tup a ws vs h1 r1 b us zs h2 r2=>
  simp only[addW] at h
  split at h
  .rename_i hz
   obtain⟨hz1,hz2⟩:=Bool.and_eq_true_iff.mp hz
   have l1:=r1.length
   have l2:=r2.length
   have hz2:=of_decide_eq_true hz2
   refine .inr (.inl ⟨a,b,vs,zs,rfl,rfl,SqT.of h1,SqT.of h2,?_,Ie (by rw[←l1,←l2];exact hz2),fun e=>?_,fun _ p hp=>?_⟩)
   .rintro rfl
    cases ws with
    |nil=>cases hz1
    |cons w ws=>cases r1
   .subst e
    cases r2
    rw[List.append_nil] at h
    exact h.now R (.tup h1 r1)
   .exact h ρ _ _ (List.prefix_refl ρ) (Ce hp) (R.beside hp) (.tup Bo ((r1.append r2).mono (List.prefix_refl ρ) (Ce hp)))
  .exact(show False from h).elim
 case ref.ref n a hn m b hm=>
  simp only[addW] at h
  split at h
  .rename_i xs ys e1 e2
   split at h
   .rename_i hz
    obtain⟨a',ha',vs,h1,r1⟩:=R.get e1
    obtain⟨b',hb',zs,h2,r2⟩:=R.get e2
    rw[hn] at ha';cases ha'
    rw[hm] at hb';cases hb'
    refine .inr (.inr ⟨a,b,vs,zs,rfl,rfl,h1,h2,Ie (by rw[←r1.length,←r2.length];exact hz),fun p hp=>?_⟩)
    have R':=R.alloc (o:=.lst (vs ++ zs)) (c:=.lst (xs ++ ys)) hp ⟨_,Bo,(r1.append r2).mono (List.prefix_append _ _) (Ce hp)⟩
    refine h (ρ ++ [p]) _ _ (List.prefix_append _ _) (Ce hp) R' (.ref ?_)
    rw[←R.len]
    exact Jm
   .exact h.elim
  .exact h.elim
end
def At6:W->W->M W
 |.int i,.int j=>if decide (0 < j)&&decide (j < 1073741824) then pure (.int (i / j)) else bad
 |_,_=>bad
def Azv:W->W->M W
 |.int i,.int j=>if 0≤j then pure (.int (i / 2 ^ j.toNat)) else bad
 |_,_=>bad
def Azw:W->W->M W
 |.int i,.int j=>if decide (0≤j)&&decide (j≤1000000)&&decide (i.natAbs < 2 ^ 64) then pure (.int (i * 2 ^ j.toNat)) else bad
 |_,_=>bad
def Azx:W->W->M W
 |.int i,.int j=>pure (.int (Builtin.bitAnd i j))
 |_,_=>bad
def Ami (p:Int->Int->Bool) (q:Str->Str->Bool):W->W->M W
 |.int i,.int j=>pure (.bl (p i j))
 |.str i,.str j=>pure (.bl (q i j))
 |_,_=>bad
def Je (i j:Str):Bool:=decide (i.cps.toList < j.cps.toList)
section
variable {Θ:Th} {ρ:List Addr} {S:Store} {H:Hp} {x y:W} {vx vy:V} {Q:VK} {E:XK}
theorem Ft {α:Type} {c:Prop} [Decidable c] {m:M α} {Rel:List Addr->Hp->α->β->Prop} {Q:β->Hp->Prop} (h:Ax Θ Rel ρ H ((if c then m else bad) S) Q E):c∧Ax Θ Rel ρ H (m S) Q E:=by
 by_cases hc:c
 .rw[if_pos hc] at h;exact⟨hc,h⟩
 .rw[if_neg hc] at h;exact(show False from h).elim
theorem Ay1 (R:Rep Θ ρ S H) (hx:RV Θ ρ H x vx) (hy:RV Θ ρ H y vy) (h:Ax Θ (RV Θ) ρ H (Azt x y S) Q E):rI0 (fun i j=>V.int (i - j)) vx vy H Q:=by
 cases hx <;> cases hy <;> first|exact(show False from h).elim|skip
 exact⟨_,_,rfl,rfl,h.now R (.int _)⟩
theorem RVs.rep {ws:List W} {vs:List V} (r:RVs Θ ρ H ws vs):∀k:Nat,RVs Θ ρ H (List.replicate k ws).flatten (List.replicate k vs).flatten
 |0=>.nil
 |k+1=>by
  rw[List.replicate_succ,List.replicate_succ,List.flatten_cons,List.flatten_cons]
  exact r.append (RVs.rep r k)
theorem Bcc (R:Rep Θ ρ S H) (hx:RV Θ ρ H x vx) (hy:RV Θ ρ H y vy) (h:Ax Θ (RV Θ) ρ H (Amg x y S) Q E) :
  (rI Api (fun i j=>V.int (i * j)) vx vy H Q∨(∃z n,vx=.str z∧vy=.int n∧z.length≤16∧0≤n∧n≤1048576∧Q (.str (Txt.mul z n)) H))∨Azd vx vy H Q:=by
 cases hx <;> cases hy <;> first|exact(show False from h).elim|skip
 case int.int i j=>
  obtain⟨hc,h⟩:=Ft h
  refine .inl (.inl ⟨_,_,rfl,rfl,?_,h.now R (.int _)⟩)
  rcases Bool.or_eq_true_iff.mp hc with q|q
  .exact .inl ⟨of_decide_eq_true (Bool.and_eq_true_iff.mp q).1,of_decide_eq_true (Bool.and_eq_true_iff.mp q).2⟩
  .exact .inr ⟨of_decide_eq_true (Bool.and_eq_true_iff.mp q).1,of_decide_eq_true (Bool.and_eq_true_iff.mp q).2⟩
 case str.int z n=>
  obtain⟨hc,h⟩:=Ft h
  obtain⟨hc,h3⟩:=Bool.and_eq_true_iff.mp hc
  obtain⟨h1,h2⟩:=Bool.and_eq_true_iff.mp hc
  exact .inl (.inr ⟨_,_,rfl,rfl,of_decide_eq_true h1,of_decide_eq_true h2,of_decide_eq_true h3,h.now R (.str _)⟩)
 case ref.int n a hn k=>
  simp only[Amg] at h
  split at h
  .rename_i xs e1
   split at h
   .rename_i hc
    obtain⟨hc,h3⟩:=Bool.and_eq_true_iff.mp hc
    obtain⟨h1,h2⟩:=Bool.and_eq_true_iff.mp hc
    obtain⟨a',ha',vs,h4,r1⟩:=R.get e1
    rw[hn] at ha';cases ha'
    refine .inr ⟨a,k,vs,rfl,rfl,h4,of_decide_eq_true h1,of_decide_eq_true h2,Ie (by rw[←r1.length];exact of_decide_eq_true h3),fun p hp=>?_⟩
    have R':=R.alloc (o:=.lst (List.replicate k.toNat vs).flatten) (c:=.lst (List.replicate k.toNat xs).flatten) hp ⟨_,Bo,(r1.rep _).mono (List.prefix_append _ _) (Ce hp)⟩
    refine h (ρ ++ [p]) _ _ (List.prefix_append _ _) (Ce hp) R' (.ref ?_)
    rw[←R.len]
    exact Jm
   .exact(show False from h).elim
  .exact(show False from h).elim
theorem Bcd (R:Rep Θ ρ S H) (hx:RV Θ ρ H x vx) (hy:RV Θ ρ H y vy) (h:Ax Θ (RV Θ) ρ H (Azu x y S) Q E):rI (fun _ j=>0 < j) (fun i j=>V.int (i % j)) vx vy H Q:=by
 cases hx <;> cases hy <;> first|exact(show False from h).elim|skip
 obtain⟨hc,h⟩:=Ft h
 exact⟨_,_,rfl,rfl,hc,h.now R (.int _)⟩
theorem Azy (R:Rep Θ ρ S H) (hx:RV Θ ρ H x vx) (hy:RV Θ ρ H y vy) (h:Ax Θ (RV Θ) ρ H (At6 x y S) Q E):rI Ayt (fun i j=>V.int (i / j)) vx vy H Q:=by
 cases hx <;> cases hy <;> first|exact(show False from h).elim|skip
 obtain⟨hc,h⟩:=Ft h
 exact⟨_,_,rfl,rfl,⟨of_decide_eq_true (Bool.and_eq_true_iff.mp hc).1,of_decide_eq_true (Bool.and_eq_true_iff.mp hc).2⟩,h.now R (.int _)⟩
theorem Bce (R:Rep Θ ρ S H) (hx:RV Θ ρ H x vx) (hy:RV Θ ρ H y vy) (h:Ax Θ (RV Θ) ρ H (Azv x y S) Q E):rI (fun _ j=>0≤j) (fun i j=>V.int (i / 2 ^ j.toNat)) vx vy H Q:=by
 cases hx <;> cases hy <;> first|exact(show False from h).elim|skip
 obtain⟨hc,h⟩:=Ft h
 exact⟨_,_,rfl,rfl,hc,h.now R (.int _)⟩
theorem Bcf (R:Rep Θ ρ S H) (hx:RV Θ ρ H x vx) (hy:RV Θ ρ H y vy) (h:Ax Θ (RV Θ) ρ H (Azw x y S) Q E):rI Ayu (fun i j=>V.int (i * 2 ^ j.toNat)) vx vy H Q:=by
 cases hx <;> cases hy <;> first|exact(show False from h).elim|skip
 obtain⟨hc,h⟩:=Ft h
 obtain⟨hc,h3⟩:=Bool.and_eq_true_iff.mp hc
 obtain⟨h1,h2⟩:=Bool.and_eq_true_iff.mp hc
 exact⟨_,_,rfl,rfl,⟨of_decide_eq_true h1,of_decide_eq_true h2,of_decide_eq_true h3⟩,h.now R (.int _)⟩
theorem Bcg (R:Rep Θ ρ S H) (hx:RV Θ ρ H x vx) (hy:RV Θ ρ H y vy) (h:Ax Θ (RV Θ) ρ H (Azx x y S) Q E):rI0 (fun i j=>V.int (Builtin.bitAnd i j)) vx vy H Q:=by
 cases hx <;> cases hy <;> first|exact(show False from h).elim|skip
 exact⟨_,_,rfl,rfl,h.now R (.int _)⟩
theorem Aqx {p:Int->Int->Bool} {q:Str->Str->Bool} (R:Rep Θ ρ S H) (hx:RV Θ ρ H x vx) (hy:RV Θ ρ H y vy) (h:Ax Θ (RV Θ) ρ H (Ami p q x y S) Q E) :
  rI0 (fun i j=>V.bl (p i j)) vx vy H Q∨∃i j,vx=.str i∧vy=.str j∧Q (.bl (q i j)) H:=by
 cases hx <;> cases hy <;> first|exact(show False from h).elim|skip
 case int.int=>exact .inl ⟨_,_,rfl,rfl,h.now R (.bl _)⟩
 case str.str=>exact .inr ⟨_,_,rfl,rfl,h.now R (.bl _)⟩
end
inductive Bop where
 |add|sub|mul|fdiv|mod|shl|shr|and
inductive Cop where
 |lt|le|gt|ge
def Bop.fn:Bop->W->W->M W
 |.add=>addW
 |.sub=>Azt
 |.mul=>Amg
 |.fdiv=>At6
 |.mod=>Azu
 |.shl=>Azw
 |.shr=>Azv
 |.and=>Azx
def Bop.of:Operator->Option Bop
 |.Add=>some .add
 |.Sub=>some .sub
 |.Mult=>some .mul
 |.FloorDiv=>some .fdiv
 |.Mod=>some .mod
 |.LShift=>some .shl
 |.RShift=>some .shr
 |.BitAnd=>some .and
 |_=>none
section
variable {Θ:Th} {X:Cx} {a b:Expr} {pos:Pos} {E:L2.St->XK} {f g:De->M W}
def Ar (o:Bop) (f g:De->M W):De->M W:=fun δ=>do let x←f δ;let y←g δ;o.fn x y
theorem Azz {op:Operator} {o:Bop} (hK:X.K=Θ.K) (h:Bop.of op=some o) (ha:WE X a (tF Θ E f)) (hb:WE X b (tF Θ E g)):WE X (.BinOp a op b pos) (tF Θ E (Ar o f g)):=by
 cases op <;> simp only[Bop.of,Option.some.injEq,reduceCtorEq] at h <;> subst h
 .refine WE.weak (kop ((Au6.or Afd).or (Apq.or Avo)) ha hb) (Nj fun ρ S H x y vx vy Q E R hx hy h=>?_)
  rw[hK]
  exact Ay0 R hx hy h
 .exact WE.weak (kop Au7 ha hb) (Nj fun ρ S H x y vx vy Q E R hx hy h=>Ay1 R hx hy h)
 .exact WE.weak (kop ((Au8.or Afo).or Avp) ha hb) (Nj fun ρ S H x y vx vy Q E R hx hy h=>Bcc R hx hy h)
 .exact WE.weak (kop Au9 ha hb) (Nj fun ρ S H x y vx vy Q E R hx hy h=>Bcd R hx hy h)
 .exact WE.weak (kop Ava ha hb) (Nj fun ρ S H x y vx vy Q E R hx hy h=>Bcf R hx hy h)
 .exact WE.weak (kop Avb ha hb) (Nj fun ρ S H x y vx vy Q E R hx hy h=>Bce R hx hy h)
 .exact WE.weak (kop Avc ha hb) (Nj fun ρ S H x y vx vy Q E R hx hy h=>Bcg R hx hy h)
 .exact WE.weak (kop Apj ha hb) (Nj fun ρ S H x y vx vy Q E R hx hy h=>Azy R hx hy h)
end
section
variable {Θ:Th} {X:Cx} {a b c e:Expr} {pos:Pos} {E:L2.St->XK} {f g h:De->M W} {x:Str} {rest:List Expr}
def kF (w:W):De->M W:=fun _=>pure w
def Ac (i:Nat):De->M W:=fun δ=>match δ[i]? with
 |some (some w)=>pure w
 |_=>bad
def Fv:W->Option V
 |.non=>some .non
 |.bl b=>some (.bl b)
 |.int i=>some (.int i)
 |.str x=>some (.str x)
 |_=>none
theorem Ahi {ρ:List Addr} {H:Hp} {w:W} {v:V} (h:D.Fv w=some v):RV Θ ρ H w v:=by
 cases w <;> simp[D.Fv] at h <;> subst h
 .exact .non
 .exact .bl _
 .exact .int _
 .exact .str _
theorem Aa8 {w:W} {v:V} (hw:D.Fv w=some v) (h:WE X e (tC v)):WE X e (tF Θ E (kF w)):=WE.weak h fun σ H Q q=>by
 obtain⟨ρ,S,δ,R,sl,q⟩:=q
 exact q.now R (Ahi hw)
theorem Az0 {i:Nat} (hv:WE X e (Aum i)):WE X e (tF Θ E (Ac i)):=WE.weak hv fun σ H Q q=>by
 obtain⟨ρ,S,δ,R,sl,q⟩:=q
 simp only[Ac] at q
 cases e1:δ[i]? with
 |none=>rw[e1] at q;exact(show False from q).elim
 |some o=>
  rw[e1] at q
  cases o with
  |none=>exact(show False from q).elim
  |some w=>
   obtain⟨v,h1,h2⟩:=sl i w e1
   exact⟨v,h1,q.now R h2⟩
def asB {α:Type} (w:W) (k:Bool->M α):M α:=match w with
 |.bl b=>k b
 |_=>bad
def Gx (f g:De->M W):De->M W:=fun δ=>do let x←f δ;asB x fun b=>if b then g δ else pure (.bl false)
def orF (f g:De->M W):De->M W:=fun δ=>do let x←f δ;asB x fun b=>if b then pure (.bl true) else g δ
def Ajr (f:De->M W):De->M W:=fun δ=>do let x←f δ;asB x fun b=>pure (.bl (!b))
def Az (f:De->M W):De->M Bool:=fun δ=>do let x←f δ;asB x fun b=>pure b
def Ac9 (c:De->M Bool) (f g:De->M W):De->M W:=fun δ=>do let b←c δ;if b then f δ else g δ
theorem Wq {α β:Type} {Rel:List Addr->Hp->α->β->Prop} {ρ:List Addr} {H:Hp} {S:Store} {w:W} {v:V} {k:Bool->M α} {Q:β->Hp->Prop} {E:XK} (rv:RV Θ ρ H w v) (q:Ax Θ Rel ρ H (asB w k S) Q E):∃b,v=.bl b∧Ax Θ Rel ρ H (k b S) Q E:=by
 cases rv <;> first|exact(show False from q).elim|exact⟨_,rfl,q⟩
theorem Az1 (ha:WE X a (tF Θ E f)) (hb:WE X (.BoolOp .And (b::rest) pos) (tF Θ E g)):WE X (.BoolOp .And (a::b::rest) pos) (tF Θ E (Gx f g)):=WE.weak (Bby ha hb) fun σ H Q ⟨ρ,S,δ,R,sl,q⟩=>by
 refine⟨ρ,S,δ,R,sl,(Ax.seq (Rel:=RV Θ) q).mono ?_⟩
 rintro v H1 ⟨ρ1,S1,w,p1,t1,R1,rv,q1⟩
 obtain⟨b,rfl,q2⟩:=Wq rv q1
 refine⟨b,rfl,?_⟩
 cases b with
 |true=>exact L2.Aau ⟨ρ1,S1,δ,R1,sl.mono p1 t1,q2⟩
 |false=>exact L2.Ac0 (q2.now R1 (.bl _))
theorem Bch (ha:WE X a (tF Θ E f)) (hb:WE X (.BoolOp .Or (b::rest) pos) (tF Θ E g)):WE X (.BoolOp .Or (a::b::rest) pos) (tF Θ E (orF f g)):=WE.weak (kor ha hb) fun σ H Q ⟨ρ,S,δ,R,sl,q⟩=>by
 refine⟨ρ,S,δ,R,sl,(Ax.seq (Rel:=RV Θ) q).mono ?_⟩
 rintro v H1 ⟨ρ1,S1,w,p1,t1,R1,rv,q1⟩
 obtain⟨b,rfl,q2⟩:=Wq rv q1
 refine⟨b,rfl,?_⟩
 cases b with
 |true=>exact L2.Aau (q2.now R1 (.bl _))
 |false=>exact L2.Ac0 ⟨ρ1,S1,δ,R1,sl.mono p1 t1,q2⟩
theorem Az2 (ha:WE X a (tF Θ E f)):WE X (.UnaryOp .Not a pos) (tF Θ E (Ajr f)):=WE.weak (knot ha) fun σ H Q ⟨ρ,S,δ,R,sl,q⟩=>by
 refine⟨ρ,S,δ,R,sl,(Ax.seq (Rel:=RV Θ) q).mono ?_⟩
 rintro v H1 ⟨ρ1,S1,w,p1,t1,R1,rv,q1⟩
 obtain⟨b,rfl,q2⟩:=Wq rv q1
 exact⟨b,rfl,q2.now R1 (.bl _)⟩
theorem Afw {t:TE} (k:∀σ H Q,tF Θ E f σ H Q->t σ H Q) (h:WT X e (tB t)):WT X e (tFb Θ E (Az f)):=WT.weak h fun σ H Q ⟨ρ,S,δ,R,sl,q⟩=>by
 refine k σ H _ ⟨ρ,S,δ,R,sl,(Ax.seq (Rel:=RV Θ) q).mono ?_⟩
 rintro v H1 ⟨ρ1,S1,w,p1,t1,R1,rv,q1⟩
 obtain⟨b,rfl,q2⟩:=Wq rv q1
 exact⟨b,rfl,q2.now R1 rfl⟩
theorem Bci {cf:De->M Bool} (hc:WT X c (tFb Θ E cf)) (ha:WE X a (tF Θ E f)) (hb:WE X b (tF Θ E g)):WE X (.IfExp c a b pos) (tF Θ E (Ac9 cf f g)):=WE.weak (kif hc ha hb) fun σ H Q ⟨ρ,S,δ,R,sl,q⟩=>by
 refine⟨ρ,S,δ,R,sl,(Ax.seq (Rel:=fun _ _ a b=>a=b) q).mono ?_⟩
 rintro v H1 ⟨ρ1,S1,w,p1,t1,R1,rfl,q1⟩
 cases w with
 |true=>exact L2.Aau ⟨ρ1,S1,δ,R1,sl.mono p1 t1,q1⟩
 |false=>exact L2.Ac0 ⟨ρ1,S1,δ,R1,sl.mono p1 t1,q1⟩
def Cop.fn:Cop->W->W->M W
 |.lt=>Ami (fun i j=>decide (i < j)) Je
 |.le=>Ami (fun i j=>decide (i≤j)) (fun i j=>!Je j i)
 |.gt=>Ami (fun i j=>decide (j < i)) (fun i j=>Je j i)
 |.ge=>Ami (fun i j=>decide (j≤i)) (fun i j=>!Je i j)
def nilF:De->M (List W):=fun _=>pure []
def Aa (f:De->M W) (g:De->M (List W)):De->M (List W):=fun δ=>do let x←f δ;let xs←g δ;pure (x::xs)
def Jh (g:De->M (List W)):De->M W:=fun δ=>do let xs←g δ;Aa7 xs
def Jo (g:De->M (List W)):De->M W:=fun δ=>do let xs←g δ;Bu xs
theorem Az3:WA X [] (tFs Θ E nilF):=WA.weak Av4 fun σ H Q ⟨ρ,S,δ,R,sl,q⟩=>q.now R .nil
theorem Awc {es:List Expr} {gs:De->M (List W)} (ha:WE X a (tF Θ E f)) (hr:WA X es (tFs Θ E gs)) (hs:starEach (a::es) X.env=(false,eval a X.env)::starEach es X.env):WA X (a::es) (tFs Θ E (Aa f gs)):=WA.weak (Aqh ha hr hs) fun σ H Q ⟨ρ,S,δ,R,sl,q⟩=>by
 refine⟨ρ,S,δ,R,sl,(Ax.seq (Rel:=RV Θ) q).mono ?_⟩
 rintro v H1 ⟨ρ1,S1,w,p1,t1,R1,rv,q1⟩
 refine⟨ρ1,S1,δ,R1,sl.mono p1 t1,(Ax.seq (Rel:=RVs Θ) q1).mono ?_⟩
 rintro vs H2 ⟨ρ2,S2,ws,p2,t2,R2,rvs,q2⟩
 exact q2.now R2 (.cons (rv.mono p2 t2) rvs)
theorem Az4 {es:List Expr} {j:Nat} {gs:De->M (List W)} (h:WA X es (tFs Θ E gs)):WE X (.Tuple es j pos) (tF Θ E (Jh gs)):=WE.weak (Bb0 h) fun σ H Q ⟨ρ,S,δ,R,sl,q⟩=>by
 refine⟨ρ,S,δ,R,sl,(Ax.seq (Rel:=RVs Θ) q).mono ?_⟩
 rintro vs H1 ⟨ρ1,S1,ws,p1,t1,R1,rvs,q1⟩
 obtain⟨hz,q1⟩:=Ft (m:=(pure (W.tup ws):M W)) (show Ax Θ (RV Θ) ρ1 H1 ((if ws.length≤big then (pure (W.tup ws):M W) else bad) S1) Q (E σ) from by unfold Aa7 at q1;exact q1)
 exact⟨Ie (by rw[←rvs.length];exact hz),fun p hp=>q1 ρ1 _ _ (List.prefix_refl _) (Ce hp) (R1.beside hp) (.tup Bo (rvs.mono (List.prefix_refl _) (Ce hp)))⟩
theorem Az5 {es:List Expr} {gs:De->M (List W)} (h:WA X es (tFs Θ E gs)):WE X (.List es pos) (tF Θ E (Jo gs)):=WE.weak (Bbz h) fun σ H Q ⟨ρ,S,δ,R,sl,q⟩=>by
 refine⟨ρ,S,δ,R,sl,(Ax.seq (Rel:=RVs Θ) q).mono ?_⟩
 rintro vs H1 ⟨ρ1,S1,ws,p1,t1,R1,rvs,q1⟩
 simp only[Bu] at q1
 by_cases hz:ws.length≤big
 .rw[if_pos hz] at q1
  refine⟨Ie (by rw[←rvs.length];exact hz),fun p hp=>q1 (ρ1 ++ [p]) _ _ (List.prefix_append _ _) (Ce hp) (R1.alloc hp ⟨_,Bo,rvs.mono (List.prefix_append _ _) (Ce hp)⟩) (.ref ?_)⟩
  rw[←R1.len]
  exact Jm
 .rw[if_neg hz] at q1
  exact q1.elim
def Ah (s:List W->M W) (g:De->M (List W)):De->M W:=fun δ=>do let ws←g δ;s ws
theorem Awd {CX:CXT} {n:Nat} {fa:Addr} {fd:FuncData} {ps:List Str} {s:List W->M W} {df:Stmt} {cm:Bool} {p:Pos} {es:List Expr} {gs:De->M (List W)} (D:Ci X.K X.mg x df ps fa fd) (F:Ib X.prog X.w X.K X.mg X.base CX n fa fd ps (spF Θ s) cm)
  (hr:Ht n X.A cm) (hx:Fw CX X E) (ha:WA X (a::es) (tFs Θ E gs)) (hg:X.env.kindOf x=some .globalImplicit) (hdb:(x==("__debug__":Str))=false) (he:starEach (a::es) X.env=(false,eval a X.env)::starEach es X.env) (hpl:(backTo pos (starEach es X.env)).any (·.1)=false) :
  WE X (.Call (.Name x p) (a::es) [] pos) (tF Θ E (Ah s gs)):=WE.weak (Av5 D F hr hx ha hg hdb he hpl) fun σ H Q ⟨ρ,S,δ,R,sl,q⟩=>by
 refine⟨ρ,S,δ,R,sl,(Ax.seq (Rel:=RVs Θ) q).mono ?_⟩
 rintro vs H1 ⟨ρ1,S1,ws,p1,t1,R1,rvs,q1⟩
 exact⟨ρ1,S1,ws,R1,by rw[List.append_nil];exact rvs,q1⟩
end
def Eg {α β:Type} (f:α->Option β):List α->Option (List β)
 |[]=>some []
 |a::as=>(f a).bind fun b=>(Eg f as).map (b::·)
def Ig (S:Store):Nat->W->Option PyData
 |0,.non=>some .none
 |0,.bl b=>some (.bool b)
 |0,.int i=>some (.int i)
 |0,.str x=>some (.str x)
 |0,_=>none
 |_+1,.non=>some .none
 |_+1,.bl b=>some (.bool b)
 |_+1,.int i=>some (.int i)
 |_+1,.str x=>some (.str x)
 |n+1,.tup ws=>(Eg (Ig S n) ws).map PyData.tuple
 |n+1,.ref k=>match S[k]? with
  |some (.lst ws)=>(Eg (Ig S n) ws).map PyData.list
  |some (.dct [])=>some (.dict [])
  |_=>none
 |_+1,.scr=>none
 |_+1,.ty _=>none
 |_+1,.cls _=>none
 |_+1,.exn _ _=>none
section
variable {Θ:Th} {ρ:List Addr} {S:Store} {H:Hp}
theorem Aa9 {f:W->Option PyData} (hf:∀w v d,RV Θ ρ H w v->f w=some d->DV H v d):∀{ws:List W} {vs:List V} {ds:List PyData},RVs Θ ρ H ws vs->Eg f ws=some ds->DVs H vs ds
 |_,_,_,.nil,e=>by cases e;exact .nil
 |w::ws,_,ds,.cons h r,e=>by
  rw[Eg] at e
  cases e1:f w with
  |none=>rw[e1] at e;cases e
  |some d=>
   rw[e1] at e
   cases e2:Eg f ws with
   |none=>rw[e2] at e;cases e
   |some es=>
    rw[e2] at e
    cases e
    exact .cons (hf _ _ _ h e1) (Aa9 hf r e2)
theorem Q3 (R:Rep Θ ρ S H):∀(n:Nat) (w:W) (v:V) (d:PyData),RV Θ ρ H w v->Ig S n w=some d->DV H v d
 |0,w,v,d,h,e=>by
  cases h <;> simp only[Ig,Option.some.injEq,reduceCtorEq] at e <;> subst e
  .exact .non
  .exact .bl _
  .exact .int _
  .exact .str _
 |n+1,w,v,d,h,e=>by
  cases h with
  |non=>cases e;exact .non
  |bl b=>cases e;exact .bl _
  |int i=>cases e;exact .int _
  |str x=>cases e;exact .str _
  |scr _=>cases e
  |ty _=>cases e
  |cls _=>cases e
  |exn _ _ _=>cases e
  |exf _ _ _ _ _ _=>cases e
  |@tup a ws vs h1 r1=>
   rw[Ig] at e
   cases e2:Eg (Ig S n) ws with
   |none=>rw[e2] at e;cases e
   |some ds=>
    rw[e2] at e
    cases e
    exact .tup h1 (Aa9 (Q3 R n) r1 e2)
  |@ref k a hk=>
   rw[Ig] at e
   cases e1:S[k]? with
   |none=>rw[e1] at e;cases e
   |some c=>
    rw[e1] at e
    obtain⟨a',ha',q⟩:=R.get e1
    rw[hk] at ha'
    cases ha'
    cases c with
    |lst ws=>
     obtain⟨vs,h1,r1⟩:=q
     cases e2:Eg (Ig S n) ws with
     |none=>simp only[e2] at e;cases e
     |some ds=>
      simp only[e2] at e
      cases e
      exact .lst h1 (Aa9 (Q3 R n) r1 e2)
    |dct kvs=>
     cases kvs with
     |nil=>
      cases e
      obtain⟨vs,h1,r1⟩:=q
      cases r1
      exact .dct h1
     |cons p kvs=>cases e
    |ins c fs=>cases e
end
def eqD (neg:Bool) (x y:W):M W:=fun S=>match Ig S 16 x,Ig S 16 y with
 |some d,some e=>if SeqAt.shaped d&&SeqAt.shaped e then .ok (.bl (if neg then !PyData.eqv d e else PyData.eqv d e)) S else .bad
 |_,_=>.bad
def eqW (neg:Bool) (x y:W):M W:=match x,y with
 |.str a,.str b=>pure (.bl (if neg then !(a==b) else a==b))
 |x,y=>eqD neg x y
def Bc5:W->Bool
 |.non=>true
 |_=>false
def Ul:W->Bool
 |.non=>true
 |.bl _=>true
 |.int _=>true
 |.str _=>true
 |_=>false
def eqF:W->W->Bool
 |.non,.non=>true
 |.bl a,.bl b=>a==b
 |.bl a,.int b=>(if a then 1 else 0)==b
 |.int a,.bl b=>a==(if b then 1 else 0)
 |.int a,.int b=>a==b
 |.str a,.str b=>a==b
 |_,_=>false
def Wr:W->Option Key
 |.int i=>some (.inl i)
 |.str x=>some (.inr x)
 |_=>none
def Afx (kvs:List (Key×W)) (k:Key):Option W:=(kvs.find? fun p=>decide (p.1=k)).map (·.2)
def Aqy (neg:Bool) (x:W) (ws:List W):M W:=if Ul x&&ws.all Ul then pure (.bl (if neg then !ws.any (eqF · x) else ws.any (eqF · x))) else bad
def inW (neg:Bool) (x y:W):M W:=match y with
 |.str j=>match x with
  |.str i=>pure (.bl (if neg then !(!(Builtin.Str.occurrences j i 0 j.length 1).isEmpty) else !(Builtin.Str.occurrences j i 0 j.length 1).isEmpty))
  |_=>bad
 |.tup ws=>Aqy neg x ws
 |.ref n=>fun S=>match S[n]? with
  |some (.lst ws)=>Aqy neg x ws S
  |some (.dct kvs)=>match Wr x with
   |some k=>.ok (.bl (if neg then !(Afx kvs k).isSome else (Afx kvs k).isSome)) S
   |none=>.bad
  |_=>.bad
 |_=>bad
section
variable {Θ:Th} {ρ:List Addr} {S:Store} {H:Hp} {x y:W} {vx vy:V} {Q:VK} {E:XK}
theorem Vo {k:Key} (hx:RV Θ ρ H x vx) (h:Wr x=some k):vx=kV k:=by
 cases hx <;> simp only[Wr,Option.some.injEq,reduceCtorEq] at h <;> subst h <;> rfl
theorem Ahj {kvs:List (Key×W)} {vs:List (Key×V)} (r:RKV Θ ρ H kvs vs) (k:Key):(∃w v,Afx kvs k=some w∧Qa vs k=some v∧RV Θ ρ H w v)∨(Afx kvs k=none∧Qa vs k=none):=by
 unfold RKV at r
 induction r with
 |nil=>exact .inr ⟨rfl,rfl⟩
 |@cons p q _ _ h r ih=>
  unfold Afx Qa at ih ⊢
  rw[List.find?_cons,List.find?_cons]
  by_cases e:p.1=k
  .have e':q.1=k:=h.1.symm.trans e
   rw[decide_eq_true e,decide_eq_true e']
   exact .inl ⟨_,_,rfl,rfl,h.2⟩
  .have e':¬ q.1=k:=fun z=>e (h.1.trans z)
   rw[decide_eq_false e,decide_eq_false e']
   exact ih
theorem Hv {α β:Type} {Rel:List Addr->Hp->α->β->Prop} {w:α} {v:β} {Q:β->Hp->Prop} (h:Ax Θ Rel ρ H (.ok w S) Q E) (r:Rep Θ ρ S H) (q:Rel ρ H w v):Q v H:=
 h ρ H v (List.prefix_refl ρ) (Cu.refl ρ H) r q
theorem Az6 {neg:Bool} (R:Rep Θ ρ S H) (hx:RV Θ ρ H x vx) (hy:RV Θ ρ H y vy) (h:Ax Θ (RV Θ) ρ H (eqD neg x y S) Q E) :
  ∃d e,DV H vx d∧DV H vy e∧SeqAt.shaped d=true∧SeqAt.shaped e=true∧Q (.bl (if neg then !PyData.eqv d e else PyData.eqv d e)) H:=by
 simp only[eqD] at h
 split at h
 .rename_i d e e1 e2
  split at h
  .rename_i hz
   obtain⟨z1,z2⟩:=Bool.and_eq_true_iff.mp hz
   exact⟨d,e,Q3 R 16 _ _ _ hx e1,Q3 R 16 _ _ _ hy e2,z1,z2,Hv h R (.bl _)⟩
  .exact(show False from h).elim
 .exact(show False from h).elim
theorem Az7 {neg:Bool} (R:Rep Θ ρ S H) (hx:RV Θ ρ H x vx) (hy:RV Θ ρ H y vy) (h:Ax Θ (RV Θ) ρ H (eqW neg x y S) Q E) :
  (∃i j,vx=.str i∧vy=.str j∧Q (.bl (if neg then !(i==j) else i==j)) H)∨∃d e,DV H vx d∧DV H vy e∧SeqAt.shaped d=true∧SeqAt.shaped e=true∧Q (.bl (if neg then !PyData.eqv d e else PyData.eqv d e)) H:=by
 unfold eqW at h
 split at h
 .cases hx
  cases hy
  exact .inl ⟨_,_,rfl,rfl,Hv h R (.bl _)⟩
 .exact .inr (Az6 R hx hy h)
theorem Ada (hx:RV Θ ρ H x vx) (h:Ul x=true):L2.Fv vx=true:=by
 cases hx <;> first|rfl|(exact absurd h Bool.false_ne_true)
theorem Zg:∀{ws:List W} {vs:List V},RVs Θ ρ H ws vs->ws.all Ul=true->vs.all L2.Fv=true
 |_,_,.nil,_=>rfl
 |_,_,.cons h r,e=>by
  rw[List.all_cons,Bool.and_eq_true] at e ⊢
  exact⟨Ada h e.1,Zg r e.2⟩
theorem Awe {u:W} {vu:V} (hu:RV Θ ρ H u vu) (hx:RV Θ ρ H x vx) (f:Ul u=true) (g:Ul x=true):eqF u x=L2.eqV vu vx:=by
 cases hu <;> cases hx <;> first|rfl|(exact absurd f Bool.false_ne_true)|(exact absurd g Bool.false_ne_true)
theorem Ahk (hx:RV Θ ρ H x vx) (g:Ul x=true):∀{ws:List W} {vs:List V},RVs Θ ρ H ws vs->ws.all Ul=true->ws.any (eqF · x)=inV vx vs
 |_,_,.nil,_=>rfl
 |_,_,.cons h r,e=>by
  rw[List.all_cons,Bool.and_eq_true] at e
  have z:=Ahk hx g r e.2
  unfold inV at z ⊢
  rw[List.any_cons,List.any_cons,Awe h hx e.1 g,z]
theorem Ahl {neg:Bool} {ws:List W} {vs:List V} (R:Rep Θ ρ S H) (hx:RV Θ ρ H x vx) (r:RVs Θ ρ H ws vs) (h:Ax Θ (RV Θ) ρ H (Aqy neg x ws S) Q E) :
  L2.Fv vx=true∧vs.all L2.Fv=true∧Q (.bl (if neg then !inV vx vs else inV vx vs)) H:=by
 unfold Aqy at h
 obtain⟨hz,h⟩:=Ft h
 obtain⟨z1,z2⟩:=Bool.and_eq_true_iff.mp hz
 rw[Ahk hx z1 r z2] at h
 exact⟨Ada hx z1,Zg r z2,h.now R (.bl _)⟩
theorem Az8 {neg:Bool} (R:Rep Θ ρ S H) (hx:RV Θ ρ H x vx) (hy:RV Θ ρ H y vy) (h:Ax Θ (RV Θ) ρ H (inW neg x y S) Q E) :
  (∃i j,vx=.str i∧vy=.str j∧Q (.bl (if neg then !(!(Builtin.Str.occurrences j i 0 j.length 1).isEmpty) else !(Builtin.Str.occurrences j i 0 j.length 1).isEmpty)) H)∨rIn Θ.K neg vx vy H Q∨∃a o,vy=.ref a∧R9 H a vx o∧Q (.bl (if neg then !o.isSome else o.isSome)) H:=by
 cases hy with
 |str j=>
  cases hx <;> try exact(show False from h).elim
  exact .inl ⟨_,_,rfl,rfl,h.now R (.bl _)⟩
 |tup h1 r1=>
  obtain⟨f1,f2,q⟩:=Ahl R hx r1 h
  exact .inr (.inl ⟨_,_,rfl,.inr (SqT.of h1),f1,f2,q⟩)
 |@ref m b hm=>
  simp only[inW] at h
  split at h
  .rename_i ws e1
   obtain⟨a',ha',vs,h1,r1⟩:=R.get e1
   rw[hm] at ha';cases ha'
   obtain⟨f1,f2,q⟩:=Ahl R hx r1 h
   exact .inr (.inl ⟨_,_,rfl,.inl (.inl (.inl h1)),f1,f2,q⟩)
  .rename_i kvs e1
   obtain⟨a',ha',vs,h1,r1⟩:=R.get e1
   rw[hm] at ha';cases ha'
   split at h
   .rename_i k ek
    rw[Vo hx ek]
    refine .inr (.inr ⟨b,Qa vs k,rfl,R9.k h1,?_⟩)
    rcases Ahj r1 k with ⟨w,v,e2,e3,_⟩|⟨e2,e3⟩ <;> rw[e2] at h <;> rw[e3] <;> exact Hv h R (.bl _)
   .exact(show False from h).elim
  .exact(show False from h).elim
 |_=>cases x <;> exact(show False from h).elim
end
section
variable {X:Cx}
theorem Afy (hu:X.A.units+1 < cLine):OpR X (compareOp .In) (fun x y H Q=>∃a o,y=.ref a∧R9 H a x o∧Q (.bl o.isSome) H):=by
 intro pins s σ H x y v u Q I rx ry h
 obtain⟨a,o,rfl,g,q⟩:=h
 obtain rfl:u=Value.ref a:=ry
 exact L2.Bbr hu I g rx fun s3 I3=>⟨.bl o.isSome,H,I3,rfl,q⟩
theorem Yl (hu:X.A.units+1 < cLine):OpR X (compareOp .NotIn) (fun x y H Q=>∃a o,y=.ref a∧R9 H a x o∧Q (.bl (!o.isSome)) H):=by
 intro pins s σ H x y v u Q I rx ry h
 obtain⟨a,o,rfl,g,q⟩:=h
 obtain rfl:u=Value.ref a:=ry
 exact L2.Apv hu I g rx fun s3 I3=>⟨.bl (!o.isSome),H,I3,rfl,q⟩
theorem Ajs:OpR X (compareOp .Gt) (fun x y H Q=>∃i j,x=.str i∧y=.str j∧Q (.bl (decide (j.cps.toList < i.cps.toList))) H):=by
 intro pins s σ H x y v u Q I rx ry h
 obtain⟨i,j,rfl,rfl,q⟩:=h
 obtain⟨t,rfl⟩:=rx
 obtain⟨t',rfl⟩:=ry
 exact PySem.P.gt_str (Pz I q rfl)
theorem Awf:OpR X (compareOp .Eq) (fun x y H Q=>∃i j,x=.str i∧y=.str j∧Q (.bl (i==j)) H):=by
 intro pins s σ H x y v u Q I rx ry h
 obtain⟨i,j,rfl,rfl,q⟩:=h
 obtain⟨t,rfl⟩:=rx
 obtain⟨t',rfl⟩:=ry
 exact eq_str (Pz I q rfl)
theorem Awg:OpR X (compareOp .NotEq) (fun x y H Q=>∃i j,x=.str i∧y=.str j∧Q (.bl (!(i==j))) H):=by
 intro pins s σ H x y v u Q I rx ry h
 obtain⟨i,j,rfl,rfl,q⟩:=h
 obtain⟨t,rfl⟩:=rx
 obtain⟨t',rfl⟩:=ry
 exact ne_str (Pz I q rfl)
theorem Ajt:OpR X (compareOp .GtE) (fun x y H Q=>∃i j,x=.str i∧y=.str j∧Q (.bl (!decide (i.cps.toList < j.cps.toList))) H):=by
 intro pins s σ H x y v u Q I rx ry h
 obtain⟨i,j,rfl,rfl,q⟩:=h
 obtain⟨t,rfl⟩:=rx
 obtain⟨t',rfl⟩:=ry
 exact PySem.P.ge_str (Pz I q rfl)
end
def Hw:CmpOp->W->W->M W
 |.Lt=>Cop.fn .lt
 |.LtE=>Cop.fn .le
 |.Gt=>Cop.fn .gt
 |.GtE=>Cop.fn .ge
 |.Eq=>eqW false
 |.NotEq=>eqW true
 |.In=>inW false
 |.NotIn=>inW true
 |.Is=>fun _ _=>bad
 |.IsNot=>fun _ _=>bad
def Bc (op:CmpOp) (f g:De->M W):De->M W:=fun δ=>do let x←f δ;let y←g δ;Hw op x y
structure Awh (Θ:Th) (X:Cx) (op:CmpOp):Type where
 r:R2
 ok:OpR X (compareOp op) r
 by_:∀ρ S H x y vx vy Q E,Rep Θ ρ S H->RV Θ ρ H x vx->RV Θ ρ H y vy->Ax Θ (RV Θ) ρ H (Hw op x y S) Q E->r vx vy H Q
theorem Aju (Θ:Th) (X:Cx) (hK:X.K=Θ.K) (hu:X.A.units+64 < cLine):∀op:CmpOp,Nonempty (Awh Θ X op)
 |.Lt=>⟨⟨_,Ayv.or Ai1,fun ρ S H x y vx vy Q E R hx hy h=>Aqx R hx hy h⟩⟩
 |.LtE=>⟨⟨_,Ayw.or Ajj,fun ρ S H x y vx vy Q E R hx hy h=>Aqx R hx hy h⟩⟩
 |.Gt=>⟨⟨_,Ayx.or Ajs,fun ρ S H x y vx vy Q E R hx hy h=>Aqx R hx hy h⟩⟩
 |.GtE=>⟨⟨_,Ayy.or Ajt,fun ρ S H x y vx vy Q E R hx hy h=>Aqx R hx hy h⟩⟩
 |.Eq=>⟨⟨_,Awf.or (Avs hu),fun ρ S H x y vx vy Q E R hx hy h=>Az7 R hx hy h⟩⟩
 |.NotEq=>⟨⟨_,Awg.or (Avt hu),fun ρ S H x y vx vy Q E R hx hy h=>Az7 R hx hy h⟩⟩
 |.In=>⟨⟨_,Ai2.or (Ai8.or (Afy (by omega))),fun ρ S H x y vx vy Q E R hx hy h=>by rw[hK];exact Az8 R hx hy h⟩⟩
 |.NotIn=>⟨⟨_,Aaq.or (Aap.or (Yl (by omega))),fun ρ S H x y vx vy Q E R hx hy h=>by rw[hK];exact Az8 R hx hy h⟩⟩
 |.Is=>⟨⟨fun _ _ _ _=>False,fun _ _ _ _ _ _ _ _ _ _ _ _ h=>h.elim,fun ρ S H x y vx vy Q E R hx hy h=>h⟩⟩
 |.IsNot=>⟨⟨fun _ _ _ _=>False,fun _ _ _ _ _ _ _ _ _ _ _ _ h=>h.elim,fun ρ S H x y vx vy Q E R hx hy h=>h⟩⟩
section
variable {Θ:Th} {X:Cx} {a b c e:Expr} {pos:Pos} {E:L2.St->XK} {f g h:De->M W}
theorem Az9 {op:CmpOp} (hK:X.K=Θ.K) (hu:X.A.units+64 < cLine) (ha:WE X a (tF Θ E f)) (hb:WE X b (tF Θ E g)) (hm:behindInMarks op b=false):WE X (.Compare a [op] [b] pos) (tF Θ E (Bc op f g)):=by
 obtain⟨o⟩:=Aju Θ X hK hu op
 exact WE.weak (Bbx o.ok ha hb hm) (Nj o.by_)
theorem Awi {op:CmpOp} (hK:X.K=Θ.K) (hu:X.A.units+64 < cLine) (ha:WE X a (tF Θ E f)) (hb:WE X b (tF Θ E g)) (hm:behindInMarks op b=false):WT X (.Compare a [op] [b] pos) (tFb Θ E (Az (Bc op f g))):=by
 obtain⟨o⟩:=Aju Θ X hK hu op
 exact Afw (Nj o.by_) (Bb1 o.ok ha hb hm)
end
def Aba {α:Type}:Option α->M α
 |some a=>pure a
 |none=>bad
def ixW (ns:List Int) (x y:W):M W:=match x with
 |.str z=>match y with
  |.int i=>if z.length≤big then Aba ((atI z.cps.toList i).map fun c=>W.str ⟨#[c]⟩) else bad
  |_=>bad
 |.tup ws=>match y with
  |.int i=>Aba (atI ws i)
  |_=>bad
 |.scr=>match y with
  |.int i=>Aba ((atI ns i).map W.int)
  |_=>bad
 |.ref n=>fun S=>match S[n]? with
  |some (.lst ws)=>match y with
   |.int i=>Aba (atI ws i) S
   |_=>.bad
  |some (.dct kvs)=>match Wr y with
   |some k=>Aba (Afx kvs k) S
   |none=>.bad
  |_=>.bad
 |_=>bad
def ixF (ns:List Int) (f g:De->M W):De->M W:=fun δ=>do let x←f δ;let y←g δ;ixW ns x y
section
variable {X:Cx}
theorem Aqz (hu:X.A.units+1 < cLine):IxR X (fun x y H Q=>∃a v,x=.ref a∧R9 H a y (some v)∧Q v H):=by
 intro value slice pins s σ H x y v u Q I rx ry h hs
 obtain⟨a,w,rfl,g,q⟩:=h
 obtain rfl:v=Value.ref a:=rx
 exact tail_any (Acy I g) PySem.F.slot_dict_getitem.lookup (Aja hu I g ry fun w' s3 I3 rw'=>⟨w,H,I3,rw',q⟩) hs
end
section
variable {Θ:Th} {ρ:List Addr} {S:Store} {H:Hp} {x y:W} {vx vy:V} {Q:VK} {E:XK}
theorem Q4 {α β:Type} {Rel:List Addr->Hp->α->β->Prop} {Q:β->Hp->Prop} {o:Option α} (h:Ax Θ Rel ρ H (Aba o S) Q E):∃w,o=some w∧Ax Θ Rel ρ H ((pure w:M α) S) Q E:=by
 cases o with
 |none=>exact(show False from h).elim
 |some w=>exact⟨w,rfl,h⟩
theorem RVs.at {ws:List W} {vs:List V} {i:Int} {w:W} (r:RVs Θ ρ H ws vs) (h:atI ws i=some w):∃v,atI vs i=some v∧RV Θ ρ H w v:=by
 unfold atI at h ⊢
 rw[←r.length]
 cases e:ixN ws.length i with
 |none=>rw[e] at h;cases h
 |some j=>
  rw[e] at h
  exact r.get h
theorem Aq0 {α β:Type} (f:α->β) (xs:List α) (i:Int):atI (xs.map f) i=(atI xs i).map f:=by
 unfold atI
 rw[List.length_map]
 cases ixN xs.length i with
 |none=>rfl
 |some j=>exact List.getElem?_map
theorem Bcj (R:Rep Θ ρ S H) (hx:RV Θ ρ H x vx) (hy:RV Θ ρ H y vy) (h:Ax Θ (RV Θ) ρ H (ixW Θ.ns x y S) Q E) :
  rIx Θ.K vx vy H Q∨∃a v,vx=.ref a∧R9 H a vy (some v)∧Q v H:=by
 cases hx with
 |str z=>
  cases hy <;> try exact(show False from h).elim
  obtain⟨hz,h⟩:=Ft h
  obtain⟨w,e,h⟩:=Q4 h
  obtain⟨c,e1,rfl⟩:=Option.map_eq_some_iff.mp e
  exact .inl (.inr (.inr ⟨_,_,c,rfl,rfl,Ie hz,e1,h.now R (.str _)⟩))
 |tup h1 r1=>
  cases hy <;> try exact(show False from h).elim
  obtain⟨w,e,h⟩:=Q4 h
  obtain⟨v,e1,rv⟩:=r1.at e
  exact .inl (.inr (.inl ⟨_,_,_,v,rfl,rfl,SqT.of h1,e1,h.now R rv⟩))
 |scr hs=>
  cases hy <;> try exact(show False from h).elim
  obtain⟨w,e,h⟩:=Q4 h
  obtain⟨c,e1,rfl⟩:=Option.map_eq_some_iff.mp e
  exact .inl (.inl ⟨_,_,_,.int c,rfl,rfl,hs.sq,by rw[Aq0,e1];rfl,h.now R (.int _)⟩)
 |@ref n a hn=>
  simp only[ixW] at h
  split at h
  .rename_i ws e1
   obtain⟨a',ha',vs,h1,r1⟩:=R.get e1
   rw[hn] at ha';cases ha'
   cases hy <;> try exact(show False from h).elim
   obtain⟨w,e,h⟩:=Q4 h
   obtain⟨v,e1,rv⟩:=r1.at e
   exact .inl (.inl ⟨_,_,_,v,rfl,rfl,.inl (.inl h1),e1,h.now R rv⟩)
  .rename_i kvs e1
   obtain⟨a',ha',vs,h1,r1⟩:=R.get e1
   rw[hn] at ha';cases ha'
   split at h
   .rename_i k ek
    rw[Vo hy ek]
    obtain⟨w,e,h⟩:=Q4 h
    rcases Ahj r1 k with ⟨w',v,e2,e3,rv⟩|⟨e2,e3⟩
    .rw[e] at e2;cases e2
     exact .inr ⟨a,v,rfl,e3 ▸ R9.k h1,h.now R rv⟩
    .rw[e] at e2;cases e2
   .exact(show False from h).elim
  .exact(show False from h).elim
 |_=>exact(show False from h).elim
end
section
variable {Θ:Th} {X:Cx} {a b c e:Expr} {pos:Pos} {E:L2.St->XK} {f g h:De->M W}
theorem Bck (hK:X.K=Θ.K) (hu:X.A.units+64 < cLine) (ha:WE X a (tF Θ E f)) (hb:WE X b (tF Θ E g)) (hs:Qz b):WE X (.Subscript a b pos) (tF Θ E (ixF Θ.ns f g)):=
 WE.weak (kix (Avl.or (Aqz (by omega))) ha hb hs) (Nj fun ρ S H x y vx vy Q E R hx hy h=>by rw[hK];exact Bcj R hx hy h)
end
section
variable {X:Cx}
open HT in
theorem Ajv {prog:Program} {w:World} {A:Around} {E:Value->Shared->Prop} {s:Shared} {t sl:Addr} {its:Array Value} {vl vu:Value} {lo hi:Option Int} {Q:Value->Shared->Prop} (ht:IsTup s.heap t its) (hs:s.heap.IsSliceOf sl vl vu .none) (pl:IsPart vl lo) (pu:IsPart vu hi)
  (hw:sIx its.size 0 lo=0∧sIx its.size its.size hi=its.size) (h:Q (.ref t) s):wpAny (model prog w) A (getItem (.ref t) (.ref sl)) Q E s:=by
 obtain⟨os,hos,hcs,hds⟩:=id hs
 have hTs:s.TypeIs (.ref sl) "slice":=⟨os,hos,hcs⟩
 unfold getItem
 try with_reducible refine wpAny_holding ?_
 first|refine wpAny_bind (wpAny_pure ?_)|skip
 refine wpAny_bind (wpAny_sequenceKey ht.typeIs (by decide) ?_)
 refine wpAny_bind (wpAny_callSpecial?_slot (name:=Str.ofString "__getitem__") ht.typeIs PyProof.Rows.slot_tuple_getitem
  (wpAny_call_entry PyProof.Rows.slot_tuple_getitem ht.typeIs entry_tuple_getitem ?_ (args_tuple_getitem _ _)))
 show wpAny _ _ (Builtin.Tuple.tupleItemsOf (.ref t) >>= _) _ _ s
 refine wpAny_bind (tupleItemsOf_ ht ?_)
 refine wpAny_bind (wpAny_typeOf hTs ?_)
 rw[if_pos (by decide)]
 refine wpAny_bind (K9 hs pl pu ?_)
 show wpAny _ _ (if (((sIx its.size 0 lo:Nat):Int)==0&&(1:Int)==1&&(sIx its.size its.size hi - sIx its.size 0 lo)==its.size)=true then _ else _) _ _ s
 rw[if_pos (by rw[hw.1,hw.2];simp)]
 unfold Builtin.Tuple.tupleIsExact
 refine wpAny_bind (wpAny_bind (wpAny_typeOf ht.typeIs (wpAny_pure ?_)))
 rw[if_pos (by decide)]
 first
  |exact wpAny_bind (wpAny_rule (wpAny_pure ⟨_,rfl,wpAny_pure h⟩))
  |exact wpAny_bind (wpAny_pure (wpAny_pure ⟨_,rfl,wpAny_pure h⟩))
  |exact wpAny_pure ⟨_,rfl,wpAny_pure h⟩
def At7 (K:PySem.W.Frag):V->Option Int->Option Int->Hp->VK->Prop:=fun x lo hi H Q=>∃a xs,x=.ref a∧SqT K H a xs∧HT.sIx xs.length 0 lo=0∧HT.sIx xs.length xs.length hi=xs.length∧Q (.ref a) H
theorem Aq1:SlR X (At7 X.K):=by
 intro pins s σ H x v vl vu lo hi sl Q I rx hs pl pu h
 obtain⟨a,xs,rfl,hx,h1,h2,q⟩:=h
 cases rx
 obtain⟨its,r,ht,hz⟩:=I.tuple hx
 have hlen:its.toArray.size=xs.length:=by rw[List.size_toArray];exact r.length.symm
 refine⟨"tuple",_,PyProof.Rows.slot_tuple_getitem.lookup,ht.typeIs,Ajv ht hs pl pu (by rw[hlen];exact⟨h1,h2⟩) ⟨.ref a,H,I,rfl,q⟩⟩
end
def Adb (ws:List W) (lo hi:Option Int):List W:=(ws.drop (HT.sIx ws.length 0 lo)).take (HT.sIx ws.length ws.length hi - HT.sIx ws.length 0 lo)
def slW (ns:List Int) (x:W) (lo hi:Option Int):M W:=match x with
 |.str z=>if z.length≤big then pure (.str (Txt.slice z lo hi)) else bad
 |.tup ws=>pure (.tup (Adb ws lo hi))
 |.scr=>Bu (Adb (ns.map W.int) lo hi)
 |.ref n=>fun S=>match S[n]? with
  |some (.lst ws)=>Bu (Adb ws lo hi) S
  |_=>.bad
 |_=>bad
def Fx (f:De->M W):De->M (Option Int):=fun δ=>do let x←f δ;match x with
 |.int i=>pure (some i)
 |_=>bad
def Ed:De->M (Option Int):=fun _=>pure none
def slF (ns:List Int) (f:De->M W) (l h:De->M (Option Int)):De->M W:=fun δ=>do let x←f δ;let lo←l δ;let hi←h δ;slW ns x lo hi
def tFo (Θ:Th) (E:L2.St->XK) (f:De->M (Option Int)):TO:=fun σ H Q=>∃ρ S δ,Rep Θ ρ S H∧RSl Θ ρ H δ σ∧Ax Θ (fun _ _ a b=>a=b) ρ H (f δ S) Q (E σ)
section
variable {Θ:Th} {ρ:List Addr} {S:Store} {H:Hp} {x y:W} {vx vy:V} {Q:VK} {E:XK}
theorem RVs.drop {ws:List W} {vs:List V} (r:RVs Θ ρ H ws vs):∀n,RVs Θ ρ H (ws.drop n) (vs.drop n)
 |0=>r
 |n+1=>by
  cases r with
  |nil=>exact .nil
  |cons h r=>exact r.drop n
theorem RVs.take {ws:List W} {vs:List V} (r:RVs Θ ρ H ws vs):∀n,RVs Θ ρ H (ws.take n) (vs.take n)
 |0=>.nil
 |n+1=>by
  cases r with
  |nil=>exact .nil
  |cons h r=>exact .cons h (r.take n)
theorem RVs.cut {ws:List W} {vs:List V} (r:RVs Θ ρ H ws vs) (lo hi:Option Int):RVs Θ ρ H (Adb ws lo hi) (Yg vs lo hi):=by
 unfold Adb Yg
 rw[r.length]
 exact(r.drop _).take _
theorem Le:∀ns:List Int,RVs Θ ρ H (ns.map W.int) (ns.map V.int)
 |[]=>.nil
 |n::ns=>.cons (.int n) (Le ns)
theorem Gq {ws:List W} {vs:List V} (R:Rep Θ ρ S H) (r:RVs Θ ρ H ws vs) (h:Ax Θ (RV Θ) ρ H (Bu ws S) Q E):vs.length≤big∧∀p,H p=none->Q (.ref p) (upd H p (.lst vs)):=by
 simp only[Bu] at h
 by_cases hz:ws.length≤big
 .rw[if_pos hz] at h
  refine⟨by rw[←r.length];exact hz,fun p hp=>h (ρ ++ [p]) _ _ (List.prefix_append _ _) (Ce hp) (R.alloc hp ⟨_,Bo,r.mono (List.prefix_append _ _) (Ce hp)⟩) (.ref ?_)⟩
  rw[←R.len]
  exact Jm
 .rw[if_neg hz] at h
  exact h.elim
theorem Sq {ws:List W} {vs:List V} (R:Rep Θ ρ S H) (r:RVs Θ ρ H ws vs) (h:Ax Θ (RV Θ) ρ H ((pure (.tup ws):M W) S) Q E):∀p,H p=none->Q (.ref p) (upd H p (.tup vs)):=fun p hp=>
 h ρ _ _ (List.prefix_refl _) (Ce hp) (R.beside hp) (.tup Bo (r.mono (List.prefix_refl _) (Ce hp)))
theorem Aq2 {ws:List V} {lo hi:Option Int} (h1:HT.sIx ws.length 0 lo=0) (h2:HT.sIx ws.length ws.length hi=ws.length):Yg ws lo hi=ws:=by
 unfold Yg
 rw[h1,h2,List.drop_zero,Nat.sub_zero,List.take_length]
theorem Bcl {lo hi:Option Int} (R:Rep Θ ρ S H) (hx:RV Θ ρ H x vx) (h:Ax Θ (RV Θ) ρ H (slW Θ.ns x lo hi S) Q E) :
  (Ay5 Θ.K vx lo hi H Q∨At7 Θ.K vx lo hi H Q)∨(Aza Θ.K vx lo hi H Q∨∃z,vx=.str z∧z.length≤sizeLine∧Q (.str (Txt.slice z lo hi)) H):=by
 cases hx with
 |str z=>
  obtain⟨hz,h⟩:=Ft h
  exact .inr (.inr ⟨z,rfl,Ie hz,h.now R (.str _)⟩)
 |@tup a ws vs h1 r1=>
  have r2:=r1.cut lo hi
  by_cases e:HT.sIx vs.length 0 lo=0∧HT.sIx vs.length vs.length hi=vs.length
  .refine .inl (.inr ⟨a,vs,rfl,SqT.of h1,e.1,e.2,h.now R (.tup h1 ?_)⟩)
   have r3:=r2
   rw[Aq2 e.1 e.2] at r3
   exact r3
  .exact .inl (.inl ⟨a,vs,rfl,SqT.of h1,e,Sq R r2 h⟩)
 |scr hs=>exact .inr (.inl ⟨_,_,rfl,hs.sq,(Gq R ((Le _).cut lo hi) h).2⟩)
 |@ref n a hn=>
  simp only[slW] at h
  split at h
  .rename_i ws e1
   obtain⟨a',ha',vs,h1,r1⟩:=R.get e1
   rw[hn] at ha';cases ha'
   exact .inr (.inl ⟨_,_,rfl,.inl (.inl h1),(Gq R (r1.cut lo hi) h).2⟩)
  .exact(show False from h).elim
 |_=>exact(show False from h).elim
end
section
variable {Θ:Th} {X:Cx} {a b c e:Expr} {pos:Pos} {E:L2.St->XK} {f g h:De->M W}
theorem WO.weak {o:Option Expr} {t t':TO} (h:WO X o t) (k:∀σ H Q,t' σ H Q->t σ H Q):WO X o t':=⟨fun pins s σ H Q I q=>h.un pins s σ H Q I (k σ H Q q)⟩
theorem Amj:WO X none (tFo Θ E Ed):=WO.weak Aqe fun σ H Q ⟨ρ,S,δ,R,sl,q⟩=>q.now R rfl
theorem Awj (ha:WE X a (tF Θ E f)):WO X (some a) (tFo Θ E (Fx f)):=WO.weak (Aqf ha) fun σ H Q ⟨ρ,S,δ,R,sl,q⟩=>by
 refine⟨ρ,S,δ,R,sl,(Ax.seq (Rel:=RV Θ) q).mono ?_⟩
 rintro v H1 ⟨ρ1,S1,w,p1,t1,R1,rv,q1⟩
 cases rv <;> first|exact(show False from q1).elim|skip
 exact⟨_,rfl,Ax.now (Rel:=fun _ _ a b=>a=b) q1 R1 rfl⟩
theorem Aq3 {lo hi:Option Expr} {l u:De->M (Option Int)} {p2:Pos} (hK:X.K=Θ.K) (ha:WE X a (tF Θ E f)) (hl:WO X lo (tFo Θ E l)) (hu:WO X hi (tFo Θ E u)):WE X (.Subscript a (.Slice lo hi none p2) pos) (tF Θ E (slF Θ.ns f l u)):=
 WE.weak (Av1 ((Avk.or Aq1).or (Apt.or Avz)) ha hl hu) fun σ H Q ⟨ρ,S,δ,R,sl,q⟩=>by
  refine⟨ρ,S,δ,R,sl,(Ax.seq (Rel:=RV Θ) q).mono ?_⟩
  rintro v H1 ⟨ρ1,S1,w,p1,t1,R1,rv,q1⟩
  refine⟨ρ1,S1,δ,R1,sl.mono p1 t1,(Ax.seq (Rel:=fun _ _ a b=>a=b) q1).mono ?_⟩
  rintro lo' H2 ⟨ρ2,S2,_,p2,t2,R2,rfl,q2⟩
  refine⟨ρ2,S2,δ,R2,(sl.mono p1 t1).mono p2 t2,(Ax.seq (Rel:=fun _ _ a b=>a=b) q2).mono ?_⟩
  rintro hi' H3 ⟨ρ3,S3,_,p3,t3,R3,rfl,q3⟩
  rw[hK]
  exact Bcl R3 ((rv.mono p2 t2).mono p3 t3) q3
end
def Cv (ns:List Int):List W->M W
 |[.str z]=>if z.length≤big then pure (.int z.length) else bad
 |[.tup ws]=>pure (.int ws.length)
 |[.scr]=>pure (.int ns.length)
 |[.ref n]=>fun S=>match S[n]? with
  |some (.lst ws)=>.ok (.int ws.length) S
  |some (.dct kvs)=>.ok (.int kvs.length) S
  |_=>.bad
 |_=>bad
def Amk:List W->M W
 |[.str x]=>if x.length=1 then pure (.int (x.cps.getD 0 0:Nat)) else bad
 |_=>bad
def Bc6:List W->M W
 |[.int i]=>if 0≤i∧i≤1114111 then pure (.str ⟨#[i.toNat]⟩) else bad
 |_=>bad
def Aq4:List W->M W
 |[.int i,.int j]=>pure (.int (if j > i then j else i))
 |_=>bad
def asInt:W->Option Int
 |.int i=>some i
 |_=>none
def Aq5:W->Option Bool
 |.bl i=>some i
 |_=>none
def Adc:W->Option Str
 |.str i=>some i
 |_=>none
def Abb:List W->M W
 |[.ref n]=>fun S=>match S[n]? with
  |some (.lst ws)=>match Eg asInt ws with
   |some is=>.ok (.int is.sum) S
   |none=>.bad
  |_=>.bad
 |_=>bad
def Ws:List W->M W
 |[.ref n]=>fun S=>match S[n]? with
  |some (.lst ws)=>match Eg Aq5 ws with
   |some is=>.ok (.bl (is.all id)) S
   |none=>.bad
  |_=>.bad
 |_=>bad
def Em (ns:List Int):List W->M W
 |[.tup ws]=>pure (.tup ws)
 |[.scr]=>pure (.tup (ns.map W.int))
 |[.ref n]=>fun S=>match S[n]? with
  |some (.lst ws)=>.ok (.tup ws) S
  |_=>.bad
 |_=>bad
def Zh (ns:List Int):List W->M W
 |[.tup ws]=>Bu ws
 |[.scr]=>Bu (ns.map W.int)
 |[.ref n]=>fun S=>match S[n]? with
  |some (.lst ws)=>Bu ws S
  |_=>.bad
 |_=>bad
def Ss:Key×W->Option Str
 |(.inr s,_)=>some s
 |_=>none
def Wt:Key×W->Option Int
 |(.inl i,_)=>some i
 |_=>none
def Jp:List W->M W
 |[.ref n]=>fun S=>match S[n]? with
  |some (.lst ws)=>if ws.length < 64 then match Eg Adc ws with
    |some ss=>Bu ((Jl ss).map W.str) S
    |none=>match Eg asInt ws with
     |some is=>Bu ((Wj is).map W.int) S
     |none=>.bad
   else .bad
  |some (.dct kvs)=>if kvs.length < 64 then match Eg Ss kvs with
    |some ss=>Bu ((Jl ss).map W.str) S
    |none=>match Eg Wt kvs with
     |some is=>Bu ((Wj is).map W.int) S
     |none=>.bad
   else .bad
  |_=>.bad
 |_=>bad
section
variable {Θ:Th} {ρ:List Addr} {S:Store} {H:Hp} {ws:List W} {vs:List V} {Q:VK} {E:XK}
theorem Lf {α:Type} {f:W->Option α} {k:α->V} (hf:∀w v a,RV Θ ρ H w v->f w=some a->v=k a):∀{ws:List W} {vs:List V} {is:List α},RVs Θ ρ H ws vs->Eg f ws=some is->vs=is.map k
 |_,_,_,.nil,e=>by cases e;rfl
 |w::ws,_,is,.cons h r,e=>by
  rw[Eg] at e
  cases e1:f w with
  |none=>rw[e1] at e;cases e
  |some d=>
   rw[e1] at e
   cases e2:Eg f ws with
   |none=>rw[e2] at e;cases e
   |some es=>
    rw[e2] at e
    cases e
    rw[hf _ _ _ h e1,Lf hf r e2]
    rfl
theorem Ade (w:W) (v:V) (i:Int) (h:RV Θ ρ H w v) (e:asInt w=some i):v=.int i:=by
 cases h <;> simp only[asInt,Option.some.injEq,reduceCtorEq] at e
 subst e;rfl
theorem Aq6 (w:W) (v:V) (i:Bool) (h:RV Θ ρ H w v) (e:Aq5 w=some i):v=.bl i:=by
 cases h <;> simp only[Aq5,Option.some.injEq,reduceCtorEq] at e
 subst e;rfl
theorem Adf (w:W) (v:V) (i:Str) (h:RV Θ ρ H w v) (e:Adc w=some i):v=.str i:=by
 cases h <;> simp only[Adc,Option.some.injEq,reduceCtorEq] at e
 subst e;rfl
theorem paired_len {α β:Type} {F:α->β->Prop} {l:List α} {m:List β} (r:Paired F l m):l.length=m.length:=by
 induction r with
 |nil=>rfl
 |cons _ _ ih=>rw[List.length_cons,List.length_cons,ih]
theorem Bcm (R:Rep Θ ρ S H) (r:RVs Θ ρ H ws vs) (h:Ax Θ (RV Θ) ρ H (Cv Θ.ns ws S) Q E) :
  (∃x n,vs=[x]∧Ayz Θ.K x H n∧Q (.int n) H)∨∃a kvs,vs=[V.ref a]∧H a=some (.dK kvs)∧Q (.int kvs.length) H:=by
 cases r with
 |nil=>exact(show False from h).elim
 |cons h1 r=>
  cases r with
  |cons _ _=>cases h1 <;> exact(show False from h).elim
  |nil=>
   cases h1 with
   |str z=>
    obtain⟨hz,h⟩:=Ft h
    exact .inl ⟨_,_,rfl,⟨Ie hz,rfl⟩,h.now R (.int _)⟩
   |tup h1 r1=>
    refine .inl ⟨_,_,rfl,.inr ⟨_,SqT.of h1,rfl⟩,?_⟩
    rw[←r1.length]
    exact h.now R (.int _)
   |scr hs=>
    refine .inl ⟨_,_,rfl,.inl ⟨_,hs.sq,rfl⟩,?_⟩
    rw[List.length_map]
    exact h.now R (.int _)
   |@ref n a hn=>
    simp only[Cv] at h
    split at h
    .rename_i us e1
     obtain⟨a',ha',zs,h2,r2⟩:=R.get e1
     rw[hn] at ha';cases ha'
     refine .inl ⟨_,_,rfl,.inl ⟨_,.inl (.inl h2),rfl⟩,?_⟩
     rw[←r2.length]
     exact Hv h R (.int _)
    .rename_i kvs e1
     obtain⟨a',ha',zs,h2,r2⟩:=R.get e1
     rw[hn] at ha';cases ha'
     refine .inr ⟨_,_,rfl,h2,?_⟩
     have e:kvs.length=zs.length:=paired_len r2
     rw[←e]
     exact Hv h R (.int _)
    .exact(show False from h).elim
   |_=>exact(show False from h).elim
theorem Bcn (R:Rep Θ ρ S H) (r:RVs Θ ρ H ws vs) (h:Ax Θ (RV Θ) ρ H (Amk ws S) Q E):∃x,vs=[.str x]∧x.length=1∧Q (.int (x.cps.getD 0 0:Nat)) H:=by
 cases r with
 |nil=>exact(show False from h).elim
 |cons h1 r=>
  cases r with
  |cons _ _=>cases h1 <;> exact(show False from h).elim
  |nil=>
   cases h1 <;> try exact(show False from h).elim
   obtain⟨hz,h⟩:=Ft h
   exact⟨_,rfl,hz,h.now R (.int _)⟩
theorem Bco (R:Rep Θ ρ S H) (r:RVs Θ ρ H ws vs) (h:Ax Θ (RV Θ) ρ H (Aq4 ws S) Q E):∃i j,vs=[.int i,.int j]∧Q (.int (if j > i then j else i)) H:=by
 cases r with
 |nil=>exact(show False from h).elim
 |cons h1 r=>
  cases r with
  |nil=>cases h1 <;> exact(show False from h).elim
  |cons h2 r=>
   cases r with
   |cons _ _=>cases h1 <;> cases h2 <;> exact(show False from h).elim
   |nil=>
    cases h1 <;> cases h2 <;> try exact(show False from h).elim
    exact⟨_,_,rfl,h.now R (.int _)⟩
theorem Bcp (R:Rep Θ ρ S H) (r:RVs Θ ρ H ws vs) (h:Ax Θ (RV Θ) ρ H (Abb ws S) Q E):∃p,∃ns:List Int,vs=[.ref p]∧H p=some (.lst (ns.map V.int))∧Q (.int ns.sum) H:=by
 cases r with
 |nil=>exact(show False from h).elim
 |cons h1 r=>
  cases r with
  |cons _ _=>cases h1 <;> exact(show False from h).elim
  |nil=>
   cases h1 <;> try exact(show False from h).elim
   rename_i n a hn
   simp only[Abb] at h
   split at h
   .rename_i us e1
    split at h
    .rename_i is e2
     obtain⟨a',ha',zs,h2,r2⟩:=R.get e1
     rw[hn] at ha';cases ha'
     rw[Lf Ade r2 e2] at h2
     exact⟨_,is,rfl,h2,Hv h R (.int _)⟩
    .exact(show False from h).elim
   .exact(show False from h).elim
theorem Bcq (R:Rep Θ ρ S H) (r:RVs Θ ρ H ws vs) (h:Ax Θ (RV Θ) ρ H (Ws ws S) Q E):∃p,∃bs:List Bool,vs=[.ref p]∧H p=some (.lst (bs.map V.bl))∧Q (.bl (bs.all id)) H:=by
 cases r with
 |nil=>exact(show False from h).elim
 |cons h1 r=>
  cases r with
  |cons _ _=>cases h1 <;> exact(show False from h).elim
  |nil=>
   cases h1 <;> try exact(show False from h).elim
   rename_i n a hn
   simp only[Ws] at h
   split at h
   .rename_i us e1
    split at h
    .rename_i is e2
     obtain⟨a',ha',zs,h2,r2⟩:=R.get e1
     rw[hn] at ha';cases ha'
     rw[Lf Aq6 r2 e2] at h2
     exact⟨_,is,rfl,h2,Hv h R (.bl _)⟩
    .exact(show False from h).elim
   .exact(show False from h).elim
theorem Awk (R:Rep Θ ρ S H) (r:RVs Θ ρ H ws vs) (h:Ax Θ (RV Θ) ρ H (Em Θ.ns ws S) Q E) :
  ∃p ys,vs=[.ref p]∧((SqL Θ.K H p ys∧∀l,H l=none->Q (.ref l) (upd H l (.tup ys)))∨(SqT Θ.K H p ys∧Q (.ref p) H)):=by
 cases r with
 |nil=>exact(show False from h).elim
 |cons h1 r=>
  cases r with
  |cons _ _=>cases h1 <;> exact(show False from h).elim
  |nil=>
   cases h1 with
   |tup h1 r1=>exact⟨_,_,rfl,.inr ⟨SqT.of h1,h.now R (.tup h1 r1)⟩⟩
   |scr hs=>exact⟨_,_,rfl,.inl ⟨hs.sq,Sq R (Le _) h⟩⟩
   |@ref n a hn=>
    simp only[Em] at h
    split at h
    .rename_i us e1
     obtain⟨a',ha',zs,h2,r2⟩:=R.get e1
     rw[hn] at ha';cases ha'
     exact⟨_,_,rfl,.inl ⟨.inl (.inl h2),Sq R r2 h⟩⟩
    .exact(show False from h).elim
   |_=>exact(show False from h).elim
theorem Baa (R:Rep Θ ρ S H) (r:RVs Θ ρ H ws vs) (h:Ax Θ (RV Θ) ρ H (Zh Θ.ns ws S) Q E) :
  ∃p ys,vs=[.ref p]∧(SqL Θ.K H p ys∨SqT Θ.K H p ys)∧∀l,H l=none->Q (.ref l) (upd H l (.lst ys)):=by
 cases r with
 |nil=>exact(show False from h).elim
 |cons h1 r=>
  cases r with
  |cons _ _=>cases h1 <;> exact(show False from h).elim
  |nil=>
   cases h1 with
   |tup h1 r1=>exact⟨_,_,rfl,.inr (SqT.of h1),(Gq R r1 h).2⟩
   |scr hs=>exact⟨_,_,rfl,.inl hs.sq,(Gq R (Le _) h).2⟩
   |@ref n a hn=>
    simp only[Zh] at h
    split at h
    .rename_i us e1
     obtain⟨a',ha',zs,h2,r2⟩:=R.get e1
     rw[hn] at ha';cases ha'
     exact⟨_,_,rfl,.inl (.inl (.inl h2)),(Gq R r2 h).2⟩
    .exact(show False from h).elim
   |_=>exact(show False from h).elim
theorem Wu:∀ss:List Str,RVs Θ ρ H (ss.map W.str) (ss.map V.str)
 |[]=>.nil
 |s::ss=>.cons (.str s) (Wu ss)
theorem Wv {α β:Type} {f:α->Option β}:∀{l:List α} {m:List β},Eg f l=some m->m.length=l.length
 |[],m,h=>by cases h;rfl
 |x::l,m,h=>by
  unfold Eg at h
  cases e1:f x with
  |none=>rw[e1] at h;cases h
  |some y=>
   cases e2:Eg f l with
   |none=>rw[e1,e2] at h;cases h
   |some ys=>rw[e1,e2] at h;cases h;simp[Wv e2]
theorem keys_str:∀{kvs:List (Key×W)} {zs:List (Key×V)} {ss:List Str},RKV Θ ρ H kvs zs->Eg Ss kvs=some ss->zs.map (·.1)=ss.map Sum.inr:=by
 intro kvs zs ss r
 unfold RKV at r
 induction r generalizing ss with
 |nil=>intro h;cases h;rfl
 |@cons a b l m h _ ih=>
  intro e
  unfold Eg at e
  obtain⟨k,w⟩:=a
  cases k with
  |inl i=>simp only[Ss] at e;cases e
  |inr s=>
   simp only[Ss] at e
   cases e2:Eg Ss l with
   |none=>rw[e2] at e;cases e
   |some ys=>
    rw[e2] at e;cases e
    have hk:=h.1
    simp only[List.map_cons,ih e2,←hk]
theorem Aml:∀{kvs:List (Key×W)} {zs:List (Key×V)} {ss:List Int},RKV Θ ρ H kvs zs->Eg Wt kvs=some ss->zs.map (·.1)=ss.map Sum.inl:=by
 intro kvs zs ss r
 unfold RKV at r
 induction r generalizing ss with
 |nil=>intro h;cases h;rfl
 |@cons a b l m h _ ih=>
  intro e
  unfold Eg at e
  obtain⟨k,w⟩:=a
  cases k with
  |inr i=>simp only[Wt] at e;cases e
  |inl s=>
   simp only[Wt] at e
   cases e2:Eg Wt l with
   |none=>rw[e2] at e;cases e
   |some ys=>
    rw[e2] at e;cases e
    have hk:=h.1
    simp only[List.map_cons,ih e2,←hk]
theorem Aq7 (R:Rep Θ ρ S H) (r:RVs Θ ρ H ws vs) (h:Ax Θ (RV Θ) ρ H (Jp ws S) Q E) :
  ((∃p,∃ss:List Str,vs=[.ref p]∧H p=some (.lst (ss.map V.str))∧ss.length < 64∧∀q,H q=none->Q (.ref q) (upd H q (.lst ((Jl ss).map V.str))))∨
  (∃p,∃ns:List Int,vs=[.ref p]∧H p=some (.lst (ns.map V.int))∧ns.length < 64∧∀q,H q=none->Q (.ref q) (upd H q (.lst ((Wj ns).map V.int)))))∨
  (∃p kvs,vs=[.ref p]∧H p=some (.dK kvs)∧kvs.length < 64∧
  ((∃ss:List Str,kvs.map (·.1)=ss.map Sum.inr∧∀q,H q=none->Q (.ref q) (upd H q (.lst ((Jl ss).map V.str))))∨(∃ns:List Int,kvs.map (·.1)=ns.map Sum.inl∧∀q,H q=none->Q (.ref q) (upd H q (.lst ((Wj ns).map V.int)))))):=by
 cases r with
 |nil=>exact(show False from h).elim
 |cons h1 r=>
  cases r with
  |cons _ _=>cases h1 <;> exact(show False from h).elim
  |nil=>
   cases h1 <;> try exact(show False from h).elim
   rename_i n a hn
   simp only[Jp] at h
   split at h
   .rename_i us e1
    obtain⟨a',ha',zs,h2,r2⟩:=R.get e1
    rw[hn] at ha';cases ha'
    split at h
    .rename_i hl
     split at h
     .rename_i is e2
      rw[Lf Adf r2 e2] at h2
      exact .inl (.inl ⟨_,is,rfl,h2,by rw[Wv e2];exact hl,(Gq R (Wu _) h).2⟩)
     .split at h
      .rename_i is e2
       rw[Lf Ade r2 e2] at h2
       exact .inl (.inr ⟨_,is,rfl,h2,by rw[Wv e2];exact hl,(Gq R (Le _) h).2⟩)
      .exact(show False from h).elim
    .exact(show False from h).elim
   .rename_i us e1
    obtain⟨a',ha',zs,h2,r2⟩:=R.get e1
    rw[hn] at ha';cases ha'
    split at h
    .rename_i hl
     have lz:zs.length < 64:=by have:us.length=zs.length:=paired_len r2;omega
     split at h
     .rename_i is e2
      exact .inr ⟨_,_,rfl,h2,lz,.inl ⟨is,keys_str r2 e2,(Gq R (Wu _) h).2⟩⟩
     .split at h
      .rename_i is e2
       exact .inr ⟨_,_,rfl,h2,lz,.inr ⟨is,Aml r2 e2,(Gq R (Le _) h).2⟩⟩
      .exact(show False from h).elim
    .exact(show False from h).elim
   .exact(show False from h).elim
end
def Aq8 (ns:List Int) (x:Str):Option (List W->M W):=
 if x="len" then some (Cv ns) else if x="ord" then some Amk else if x="max" then some Aq4
 else if x="sum" then some Abb else if x="all" then some Ws else if x="sorted" then some Jp else none
def Aq9 (ns:List Int) (x:Str):Option (List W->M W):=if x="tuple" then some (Em ns) else if x="list" then some (Zh ns) else none
structure Amm (Θ:Th) (X:Cx) (v:Value) (g:List W->M W) where
 r:List V->Hp->VK->Prop
 ok:Gw X v r
 by_:∀ρ S H ws vs Q E,Rep Θ ρ S H->RVs Θ ρ H ws vs->Ax Θ (RV Θ) ρ H (g ws S) Q E->r vs H Q
theorem Ara {Θ:Th} {X:Cx} (hK:X.K=Θ.K) (hc:X.calm=true) {x:Str} {g:List W->M W} (h:Aq8 Θ.ns x=some g):∃id,bootBuiltins x=some (.builtin id)∧Nonempty (Amm Θ X (.builtin id) g):=by
 unfold Aq8 at h
 split at h
 .rename_i e;subst e;cases h
  exact⟨"len",by kernel_rfl,⟨⟨_,Alf.or Aje,fun ρ S H ws vs Q E R r h=>by rw[hK];exact Bcm R r h⟩⟩⟩
 split at h
 .rename_i e;subst e;cases h
  exact⟨"ord",by kernel_rfl,⟨⟨_,Ale,fun ρ S H ws vs Q E R r h=>Bcn R r h⟩⟩⟩
 split at h
 .rename_i e;subst e;cases h
  exact⟨"max",by kernel_rfl,⟨⟨_,Ai3 hc,fun ρ S H ws vs Q E R r h=>Bco R r h⟩⟩⟩
 split at h
 .rename_i e;subst e;cases h
  exact⟨"sum",by kernel_rfl,⟨⟨_,Al4 hc,fun ρ S H ws vs Q E R r h=>Bcp R r h⟩⟩⟩
 split at h
 .rename_i e;subst e;cases h
  exact⟨"all",by kernel_rfl,⟨⟨_,Al1 hc,fun ρ S H ws vs Q E R r h=>Bcq R r h⟩⟩⟩
 split at h
 .rename_i e;subst e;cases h
  exact⟨"sorted",by kernel_rfl,⟨⟨_,(Aa2.or Aa3).or (Aa4 hc),fun ρ S H ws vs Q E R r h=>Aq7 R r h⟩⟩⟩
 .cases h
theorem Arb {Θ:Th} {X:Cx} (hK:X.K=Θ.K) {x:Str} {g:List W->M W} (h:Aq9 Θ.ns x=some g):∃T,bootBuiltins x=some (.type T)∧Nonempty (Amm Θ X (.type T) g):=by
 unfold Aq9 at h
 split at h
 .rename_i e;subst e;cases h
  exact⟨"tuple",by kernel_rfl,⟨⟨_,Yi,fun ρ S H ws vs Q E R r h=>by rw[hK];exact Awk R r h⟩⟩⟩
 split at h
 .rename_i e;subst e;cases h
  exact⟨"list",by kernel_rfl,⟨⟨_,Aar,fun ρ S H ws vs Q E R r h=>by rw[hK];exact Baa R r h⟩⟩⟩
 .cases h
section
variable {Θ:Th} {X:Cx} {a b c e:Expr} {p pos:Pos} {E:L2.St->XK} {f g h:De->M W} {es:List Expr} {x:Str} {gs:De->M (List W)} {fn:List W->M W}
theorem Bcr (hK:X.K=Θ.K) (hc:X.calm=true) (hx:Aq8 Θ.ns x=some fn) (hm:X.mg x=none) (ha:WA X (e::es) (tFs Θ E gs)) (hg:X.env.kindOf x=some .globalImplicit) (hn:decide (x=("__name__":Str))=false) (hdb:(x==("__debug__":Str))=false)
  (he:starEach (e::es) X.env=(false,eval e X.env)::starEach es X.env) (hpl:(backTo pos (starEach es X.env)).any (·.1)=false):WE X (.Call (.Name x p) (e::es) [] pos) (tF Θ E (Ah fn gs)):=by
 obtain⟨id,hv,⟨o⟩⟩:=Ara (X:=X) hK hc hx
 refine WE.weak (kbi o.ok hm hv ha hg hn hdb he hpl) fun σ H Q ⟨ρ,S,δ,R,sl,q⟩=>?_
 refine⟨ρ,S,δ,R,sl,(Ax.seq (Rel:=RVs Θ) q).mono ?_⟩
 rintro vs H1 ⟨ρ1,S1,ws,p1,t1,R1,rvs,q1⟩
 exact o.by_ ρ1 S1 H1 ws vs Q (E σ) R1 rvs q1
theorem Bcs (hK:X.K=Θ.K) (hx:Aq9 Θ.ns x=some fn) (hm:X.mg x=none) (ha:WA X (e::es) (tFs Θ E gs)) (hg:X.env.kindOf x=some .globalImplicit) (hn:decide (x=("__name__":Str))=false) (hdb:(x==("__debug__":Str))=false)
  (he:starEach (e::es) X.env=(false,eval e X.env)::starEach es X.env) (hpl:(backTo pos (starEach es X.env)).any (·.1)=false):WE X (.Call (.Name x p) (e::es) [] pos) (tF Θ E (Ah fn gs)):=by
 obtain⟨T,hv,⟨o⟩⟩:=Arb (X:=X) hK hx
 refine WE.weak ⟨Ai7 o.ok hg hm hv ha.un (of_decide_eq_false hn) hdb he hpl⟩ fun σ H Q ⟨ρ,S,δ,R,sl,q⟩=>?_
 refine⟨ρ,S,δ,R,sl,(Ax.seq (Rel:=RVs Θ) q).mono ?_⟩
 rintro vs H1 ⟨ρ1,S1,ws,p1,t1,R1,rvs,q1⟩
 exact o.by_ ρ1 S1 H1 ws vs Q (E σ) R1 rvs q1
end
inductive RS where
 |nx (δ:De) (S:Store)
 |rt (w:W) (S:Store)
 |bk (δ:De) (S:Store)
 |ct (δ:De) (S:Store)
 |ex (c:Nat×W) (δ:De) (S:Store)
 |bad
abbrev MS:=De->Store->RS
def El {α:Type} (m:M α) (k:α->MS):MS:=fun δ S=>match m S with
 |.ok a S1=>k a δ S1
 |.exc c S1=>.ex c δ S1
 |.bad=>.bad
def Am:MS:=.nx
def Ak (a b:MS):MS:=fun δ S=>match a δ S with
 |.nx δ1 S1=>b δ1 S1
 |r=>r
def Bx (i:Nat) (f:De->M W):MS:=fun δ=>El (f δ) (fun w δ S=>.nx (δ.set i (some w)) S) δ
def retS (f:De->M W):MS:=fun δ=>El (f δ) (fun w _ S=>.rt w S) δ
def M7 (f:De->M W):MS:=fun δ=>El (f δ) (fun _ δ S=>.nx δ S) δ
def ifS (c:De->M Bool) (a b:MS):MS:=fun δ=>El (c δ) (fun t=>if t then a else b) δ
def Fy (c:De->M Bool) (b:MS):Nat->MS
 |0=>fun _ _=>.bad
 |n+1=>fun δ=>El (c δ) (fun t=>if t then fun δ S=>match b δ S with
  |.nx δ1 S1=>Fy c b n δ1 S1
  |.ct δ1 S1=>Fy c b n δ1 S1
  |.bk δ1 S1=>.nx δ1 S1
  |r=>r else .nx) δ
section
variable (Θ:Th)
def RSs (ρ:List Addr) (H:Hp) (δ:De) (σ:L2.St):Prop:=δ.length=σ.length∧RSl Θ ρ H δ σ
def Dd (ρ:List Addr) (H:Hp) (r:RS) (D:Ends) (E:L2.St->XK):Prop:=match r with
 |.nx δ S=>∀ρ' H' σ',ρ <+: ρ'->Cu ρ ρ' H H'->Rep Θ ρ' S H'->RSs Θ ρ' H' δ σ'->D.nx σ' H'
 |.bk δ S=>∀ρ' H' σ',ρ <+: ρ'->Cu ρ ρ' H H'->Rep Θ ρ' S H'->RSs Θ ρ' H' δ σ'->D.bk σ' H'
 |.ct δ S=>∀ρ' H' σ',ρ <+: ρ'->Cu ρ ρ' H H'->Rep Θ ρ' S H'->RSs Θ ρ' H' δ σ'->D.ct σ' H'
 |.rt w S=>∀ρ' H' v,ρ <+: ρ'->Cu ρ ρ' H H'->Rep Θ ρ' S H'->RV Θ ρ' H' w v->D.rt v H'
 |.ex c δ S=>∀ρ' H' σ',ρ <+: ρ'->Cu ρ ρ' H H'->Rep Θ ρ' S H'->RSs Θ ρ' H' δ σ'->XP Θ ρ' H' c (E σ')
 |.bad=>False
def tS (E:L2.St->XK) (f:MS):TS:=fun D σ H=>∃ρ S δ,Rep Θ ρ S H∧RSs Θ ρ H δ σ∧Dd Θ ρ H (f δ S) D E
end
section
variable {Θ:Th} {X:Cx} {st:Stmt} {sts:List Stmt} {e c:Expr} {pos pos':Pos} {E:L2.St->XK} {f:De->M W} {cf:De->M Bool} {a b:MS} {x:Str}
theorem RSs.mono {ρ ρ':List Addr} {H H':Hp} (p:ρ <+: ρ') (t:Cu ρ ρ' H H') {δ:De} {σ:L2.St} (h:RSs Θ ρ H δ σ):RSs Θ ρ' H' δ σ:=⟨h.1,h.2.mono p t⟩
theorem RSs.set {ρ:List Addr} {H:Hp} {δ:De} {σ:L2.St} {i:Nat} {w:W} {v:V} (h:RSs Θ ρ H δ σ) (r:RV Θ ρ H w v):RSs Θ ρ H (δ.set i (some w)) (σ.set i (some v)):=by
 refine⟨by rw[List.length_set,List.length_set];exact h.1,fun j u e=>?_⟩
 by_cases hj:j=i
 .subst hj
  have hl:j < δ.length:=by
   have z:=(List.getElem?_eq_some_iff.mp e).1
   rwa [List.length_set] at z
  rw[List.getElem?_set_self hl] at e
  cases e
  exact⟨v,List.getElem?_set_self (by rw[←h.1];exact hl),r⟩
 .rw[List.getElem?_set_ne (Ne.symm hj)] at e
  obtain⟨z,h1,h2⟩:=h.2 j u e
  exact⟨z,by rw[List.getElem?_set_ne (Ne.symm hj)];exact h1,h2⟩
theorem Dd.shift {ρ ρ1:List Addr} {H H1:Hp} {r:RS} {D:Ends} (h:Dd Θ ρ H r D E) (p:ρ <+: ρ1) (t:Cu ρ ρ1 H H1):Dd Θ ρ1 H1 r D E:=by
 cases r with
 |bad=>exact h
 |_=>exact fun ρ2 H2 v p2 t2 r2 q2=>h ρ2 H2 v (p.trans p2) (t.trans t2) r2 q2
theorem Dd.nxt {ρ:List Addr} {H:Hp} {S:Store} {δ:De} {σ:L2.St} {D:Ends} (h:Dd Θ ρ H (.nx δ S) D E) (R:Rep Θ ρ S H) (sl:RSs Θ ρ H δ σ):D.nx σ H:=h ρ H σ (List.prefix_refl ρ) (Cu.refl ρ H) R sl
theorem Dd.ret {ρ:List Addr} {H:Hp} {S:Store} {w:W} {v:V} {D:Ends} (h:Dd Θ ρ H (.rt w S) D E) (R:Rep Θ ρ S H) (rv:RV Θ ρ H w v):D.rt v H:=h ρ H v (List.prefix_refl ρ) (Cu.refl ρ H) R rv
theorem Dd.lift {α β:Type} {Rel:List Addr->Hp->α->β->Prop} {ρ:List Addr} {H:Hp} {S:Store} {m:M α} {k:α->MS} {δ:De} {σ:L2.St} {D:Ends} (sl:RSs Θ ρ H δ σ) (h:Dd Θ ρ H (El m k δ S) D E) :
  Ax Θ Rel ρ H (m S) (fun v H1=>∃ρ1 S1 w,ρ <+: ρ1∧Cu ρ ρ1 H H1∧Rep Θ ρ1 S1 H1∧RSs Θ ρ1 H1 δ σ∧Rel ρ1 H1 w v∧Dd Θ ρ1 H1 (k w δ S1) D E) (E σ):=by
 unfold El at h
 cases e:m S with
 |bad=>rw[e] at h;exact h
 |exc c S1=>rw[e] at h;exact fun ρ1 H1 p t r=>h ρ1 H1 σ p t r (sl.mono p t)
 |ok w S1=>
  rw[e] at h
  exact fun ρ1 H1 v p t r rw'=>⟨ρ1,S1,w,p,t,r,sl.mono p t,rw',Dd.shift h p t⟩
theorem WS.weak {t t':TS} (h:WS X st t) (k:∀D σ H,t' D σ H->t D σ H):WS X st t':=⟨fun pins s σ H D I q=>h.un pins s σ H D I (k D σ H q)⟩
theorem WSs.weak {t t':TS} (h:WSs X sts t) (k:∀D σ H,t' D σ H->t D σ H):WSs X sts t':=⟨fun pins s σ H D I q=>h.un pins s σ H D I (k D σ H q)⟩
theorem Awl:WSs X [] (tS Θ E Am):=WSs.weak Bb9 fun D σ H ⟨ρ,S,δ,R,sl,q⟩=>q.nxt R sl
theorem Arc (ha:WS X st (tS Θ E a)) (hb:WSs X sts (tS Θ E b)):WSs X (st::sts) (tS Θ E (Ak a b)):=WSs.weak (Azp ha hb) fun D σ H ⟨ρ,S,δ,R,sl,q⟩=>by
 refine⟨ρ,S,δ,R,sl,?_⟩
 unfold Ak at q
 cases e:a δ S with
 |nx δ1 S1=>
  rw[e] at q
  exact fun ρ1 H1 σ1 p1 t1 R1 sl1=>⟨ρ1,S1,δ1,R1,sl1,Dd.shift q p1 t1⟩
 |_=>rw[e] at q;exact q
theorem Amn {i:Nat} (he:WE X e (tF Θ E f)) (nd:decide X.N.Nodup=true) (hi:X.N[i]?=some x) (hl:Afq X.env.scope x=true) (hs:swapsWith e (some (.Name x pos')) pos.line X.env=pure false) (hf:X.fn x=true) :
  WS X (.Assign [.Name x pos'] e pos) (tS Θ E (Bx i f)):=WS.weak (Bb6 he nd hi hl hs hf) fun D σ H ⟨ρ,S,δ,R,sl,q⟩=>by
 refine⟨ρ,S,δ,R,sl.2,(Dd.lift (Rel:=RV Θ) sl q).mono ?_⟩
 rintro v H1 ⟨ρ1,S1,w,p1,t1,R1,sl1,rv,q1⟩
 exact q1.nxt R1 (sl1.set rv)
theorem Awm (he:WE X e (tF Θ E f)):WS X (.Return (some e) pos) (tS Θ E (retS f)):=WS.weak (Bb7 he) fun D σ H ⟨ρ,S,δ,R,sl,q⟩=>by
 refine⟨ρ,S,δ,R,sl.2,(Dd.lift (Rel:=RV Θ) sl q).mono ?_⟩
 rintro v H1 ⟨ρ1,S1,w,p1,t1,R1,sl1,rv,q1⟩
 exact q1.ret R1 rv
theorem Ard (he:WE X e (tF Θ E f)) (hs:swapsWith e none pos.line X.env=pure false):WS X (.Expr e pos) (tS Θ E (M7 f)):=WS.weak (Azn he hs) fun D σ H ⟨ρ,S,δ,R,sl,q⟩=>by
 refine⟨ρ,S,δ,R,sl.2,(Dd.lift (Rel:=RV Θ) sl q).mono ?_⟩
 rintro v H1 ⟨ρ1,S1,w,p1,t1,R1,sl1,rv,q1⟩
 exact q1.nxt R1 sl1
theorem Bab {A B:List Stmt} (hc:WT X c (tFb Θ E cf)) (ha:WSs X A (tS Θ E a)) (hb:WSs X B (tS Θ E b)):WS X (.If c A B pos) (tS Θ E (ifS cf a b)):=WS.weak (sif hc ha hb) fun D σ H ⟨ρ,S,δ,R,sl,q⟩=>by
 refine⟨ρ,S,δ,R,sl.2,(Dd.lift (Rel:=fun _ _ a b=>a=b) sl q).mono ?_⟩
 rintro v H1 ⟨ρ1,S1,w,p1,t1,R1,sl1,rfl,q1⟩
 cases w with
 |true=>exact L2.Aau ⟨ρ1,S1,δ,R1,sl1,q1⟩
 |false=>exact L2.Ac0 ⟨ρ1,S1,δ,R1,sl1,q1⟩
theorem Amo {body:List Stmt} (n:Nat) (hp:PassesOwn (model X.prog X.w) X.A X.env X.xe) (hc:WT X c (tFb Θ E cf)) (hb:WSs X body (tS Θ E b)):WS X (.While c body [] pos) (tS Θ E (Fy cf b n)):=
 WS.weak ⟨Alb hp hc.un hb.un⟩ fun D σ H ⟨ρ,S,δ,R,sl,q⟩=>by
  refine⟨fun m σ H=>∃ρ S δ,Rep Θ ρ S H∧RSs Θ ρ H δ σ∧Dd Θ ρ H (Fy cf b m δ S) D E,⟨n,ρ,S,δ,R,sl,q⟩,?_⟩
  rintro m σ H ⟨ρ,S,δ,R,sl,q⟩
  cases m with
  |zero=>exact q.elim
  |succ m=>
   refine⟨ρ,S,δ,R,sl.2,(Dd.lift (Rel:=fun _ _ a b=>a=b) sl q).mono ?_⟩
   rintro v H1 ⟨ρ1,S1,w,p1,t1,R1,sl1,rfl,q1⟩
   cases w with
   |false=>exact L2.Ac0 (q1.nxt R1 sl1)
   |true=>
    refine L2.Aau ⟨fun σ H=>∃ρ S δ,Rep Θ ρ S H∧RSs Θ ρ H δ σ∧Dd Θ ρ H (Fy cf b m δ S) D E,fun σ' H' h=>⟨m,Nat.lt_succ_self m,h⟩,ρ1,S1,δ,R1,sl1,?_⟩
    simp only[if_true] at q1
    cases e:b δ S1 with
    |nx δ2 S2=>
     rw[e] at q1
     exact fun ρ2 H2 σ2 p2 t2 R2 sl2=>⟨ρ2,S2,δ2,R2,sl2,Dd.shift q1 p2 t2⟩
    |ct δ2 S2=>
     rw[e] at q1
     exact fun ρ2 H2 σ2 p2 t2 R2 sl2=>⟨ρ2,S2,δ2,R2,sl2,Dd.shift q1 p2 t2⟩
    |bk δ2 S2=>
     rw[e] at q1
     exact fun ρ2 H2 σ2 p2 t2 R2 sl2=>q1 ρ2 H2 σ2 p2 t2 R2 sl2
    |_=>rw[e] at q1;exact q1
end
abbrev Tg:=W->De->Option De
def Cr (i:Nat):Tg:=fun w δ=>some (δ.set i (some w))
def Q5 (is:List Nat):Tg:=fun w δ=>match w with
 |.tup ws=>if ws.length=is.length then some ((is.zip ws).foldl (fun δ p=>δ.set p.1 (some p.2)) δ) else none
 |_=>none
def GOk (Θ:Th) (s:Tg) (g:TG):Prop:=∀ρ S H w v δ δ' σ Q,Rep Θ ρ S H->RSs Θ ρ H δ σ->RV Θ ρ H w v->s w δ=some δ'->(∀σ',RSs Θ ρ H δ' σ'->Q σ' H)->g v σ H Q
theorem Adg {Θ:Th} (i:Nat):GOk Θ (Cr i) (K8 i):=fun ρ S H w v δ δ' σ Q R sl rv e k=>by
 cases e
 exact k _ (sl.set rv)
def Ww:List Nat->TGs
 |[]=>Ayp
 |i::is=>Atw (K8 i) (Ww is)
theorem Zi {Θ:Th} {ρ:List Addr} {H:Hp}:∀(is:List Nat) {ws:List W} {vs:List V} {δ:De} {σ:L2.St} {Q:L2.St->Hp->Prop},RVs Θ ρ H ws vs->RSs Θ ρ H δ σ->ws.length=is.length->
  (∀σ',RSs Θ ρ H ((is.zip ws).foldl (fun δ p=>δ.set p.1 (some p.2)) δ) σ'->Q σ' H)->Ww is vs σ H Q
 |[],_,_,_,_,_,.nil,sl,_,k=>⟨rfl,k _ sl⟩
 |[],_,_,_,_,_,.cons _ _,_,e,_=>by simp at e
 |i::is,_,_,_,_,_,.nil,_,e,_=>by simp at e
 |i::is,_,_,_,_,_,.cons h r,sl,e,k=>⟨_,_,rfl,Zi is r (sl.set h) (by simpa using e) k⟩
theorem Ahm {Θ:Th} {K:PySem.W.Frag} (is:List Nat) {n:Nat} (hn:n=is.length):GOk Θ (Q5 is) (Auy K n (Ww is)):=fun ρ S H w v δ δ' σ Q R sl rv e k=>by
 cases rv <;> try (simp only[Q5,reduceCtorEq] at e;done)
 rename_i a ws vs h1 r1
 simp only[Q5] at e
 split at e
 .rename_i hz
  cases e
  exact⟨_,_,rfl,SqT.of h1,by rw[←r1.length,hz,hn],Zi is r1 sl hz k⟩
 .cases e
def Lg (s:Tg) (b:MS):List W->MS
 |[]=>.nx
 |w::ws=>fun δ S=>match s w δ with
  |none=>.bad
  |some δ1=>match b δ1 S with
   |.nx δ2 S2=>Lg s b ws δ2 S2
   |.ct δ2 S2=>Lg s b ws δ2 S2
   |.bk δ2 S2=>.nx δ2 S2
   |r=>r
def forL (s:Tg) (b:MS) (n:Nat):Nat->Nat->MS
 |0,_=>fun _ _=>.bad
 |m+1,i=>fun δ S=>match S[n]? with
  |some (.lst ws)=>match ws[i]? with
   |none=>.nx δ S
   |some w=>match s w δ with
    |none=>.bad
    |some δ1=>match b δ1 S with
     |.nx δ2 S2=>forL s b n m (i+1) δ2 S2
     |.ct δ2 S2=>forL s b n m (i+1) δ2 S2
     |.bk δ2 S2=>.nx δ2 S2
     |r=>r
  |_=>.bad
structure JOk (Θ:Th) (J:It) (all:List W) (ρ0:List Addr) (H0:Hp):Prop where
 go:∀ρ H i,ρ0 <+: ρ->Cu ρ0 ρ H0 H->i < all.length->J.go i H∧∀x H',J.yld i H x H'->Cu ρ ρ H H'∧(∀S,Rep Θ ρ S H->Rep Θ ρ S H')∧∃w,all[i]?=some w∧RV Θ ρ H' w x
 stop:∀ρ H i,Cu ρ0 ρ H0 H->i=all.length->J.stop i H
section
variable {Θ:Th} {E:L2.St->XK} {b:MS} {s:Tg} {g:TG} {D:Ends}
theorem Are {J:It} {all:List W} {ρ:List Addr} {S:Store} {H:Hp} {δ:De} {σ:L2.St} (gk:GOk Θ s g) (jk:JOk Θ J all ρ H) (R:Rep Θ ρ S H) (sl:RSs Θ ρ H δ σ) (q:Dd Θ ρ H (Lg s b all δ S) D E) :
  ∃W:Nat->Nat->L2.St->Hp->Prop,(∃m,W 0 m σ H)∧∀i m σ H,W i m σ H->(J.stop i H∧D.nx σ H)∨(J.go i H∧∃N:L2.St->Hp->Prop,(∀σ' H',N σ' H'->∃m',m' < m∧W (i+1) m' σ' H')∧∀x H',J.yld i H x H'->g x σ H' fun σ2 H2=>tS Θ E b { D with nx:=N,ct:=N,bk:=D.nx } σ2 H2):=by
 refine⟨fun i m σ H1=>∃ρ1 S1 δ1,i≤all.length∧ρ <+: ρ1∧Cu ρ ρ1 H H1∧Rep Θ ρ1 S1 H1∧RSs Θ ρ1 H1 δ1 σ∧m=(all.drop i).length∧Dd Θ ρ1 H1 (Lg s b (all.drop i) δ1 S1) D E,⟨_,ρ,S,δ,Nat.zero_le _,List.prefix_refl _,Cu.refl _ _,R,sl,rfl,q⟩,?_⟩
 rintro i m σ1 H1 ⟨ρ1,S1,δ1,li,p1,t1,R1,sl1,rfl,q1⟩
 by_cases hi:i < all.length
 .obtain⟨go,yl⟩:=jk.go ρ1 H1 i p1 t1 hi
  refine .inr ⟨go,fun σ2 H2=>∃ρ2 S2 δ2,ρ <+: ρ2∧Cu ρ ρ2 H H2∧Rep Θ ρ2 S2 H2∧RSs Θ ρ2 H2 δ2 σ2∧Dd Θ ρ2 H2 (Lg s b (all.drop (i+1)) δ2 S2) D E,?_,fun x H' hy=>?_⟩
  .rintro σ2 H2 ⟨ρ2,S2,δ2,p2,t2,R2,sl2,q2⟩
   exact⟨(all.drop (i+1)).length,by rw[List.length_drop,List.length_drop];omega,ρ2,S2,δ2,hi,p2,t2,R2,sl2,rfl,q2⟩
  .obtain⟨ty,Ry,w,ew,rv⟩:=yl x H' hy
   have R1:=Ry _ R1
   have sl1:=sl1.mono (List.prefix_refl _) ty
   have t1:=t1.trans ty
   have q1:=Dd.shift q1 (List.prefix_refl _) ty
   have ed:all.drop i=w::all.drop (i+1):=by
    obtain⟨hl,e⟩:=List.getElem?_eq_some_iff.mp ew
    rw[←e]
    exact List.drop_eq_getElem_cons hl
   rw[ed] at q1
   unfold Lg at q1
   cases es:s w δ1 with
   |none=>simp only[es] at q1;exact q1.elim
   |some δ2=>
    simp only[es] at q1
    refine gk ρ1 S1 H' w x δ1 δ2 σ1 _ R1 sl1 rv es fun σ2 sl2=>⟨ρ1,S1,δ2,R1,sl2,?_⟩
    cases e:b δ2 S1 with
    |nx δ3 S3=>
     rw[e] at q1
     exact fun ρ3 H3 σ3 p3 t3 R3 sl3=>⟨ρ3,S3,δ3,p1.trans p3,t1.trans t3,R3,sl3,Dd.shift q1 p3 t3⟩
    |ct δ3 S3=>
     rw[e] at q1
     exact fun ρ3 H3 σ3 p3 t3 R3 sl3=>⟨ρ3,S3,δ3,p1.trans p3,t1.trans t3,R3,sl3,Dd.shift q1 p3 t3⟩
    |bk δ3 S3=>
     rw[e] at q1
     exact fun ρ3 H3 σ3 p3 t3 R3 sl3=>q1 ρ3 H3 σ3 p3 t3 R3 sl3
    |_=>rw[e] at q1;exact q1
 .rw[List.drop_eq_nil_of_le (by omega)] at q1
  exact .inl ⟨jk.stop ρ1 H1 i t1 (by omega),q1.nxt R1 sl1⟩
theorem Arf {K:PySem.W.Frag} {n f:Nat} {a:Addr} {ρ:List Addr} {S:Store} {H:Hp} {δ:De} {σ:L2.St} (gk:GOk Θ s g) (hn:ρ[n]?=some a) (R:Rep Θ ρ S H) (sl:RSs Θ ρ H δ σ) (q:Dd Θ ρ H (forL s b n f 0 δ S) D E) :
  ∃W:Nat->Nat->L2.St->Hp->Prop,(∃m,W 0 m σ H)∧∀i m σ H,W i m σ H->((Itl K a).stop i H∧D.nx σ H)∨((Itl K a).go i H∧∃N:L2.St->Hp->Prop,(∀σ' H',N σ' H'->∃m',m' < m∧W (i+1) m' σ' H')∧∀x H',(Itl K a).yld i H x H'->g x σ H' fun σ2 H2=>tS Θ E b { D with nx:=N,ct:=N,bk:=D.nx } σ2 H2):=by
 refine⟨fun i m σ H1=>∃ρ1 S1 δ1,ρ <+: ρ1∧Rep Θ ρ1 S1 H1∧RSs Θ ρ1 H1 δ1 σ∧Dd Θ ρ1 H1 (forL s b n m i δ1 S1) D E,⟨f,ρ,S,δ,List.prefix_refl _,R,sl,q⟩,?_⟩
 rintro i m σ1 H1 ⟨ρ1,S1,δ1,p1,R1,sl1,q1⟩
 cases m with
 |zero=>exact q1.elim
 |succ m=>
  unfold forL at q1
  have hn1:ρ1[n]?=some a:=by
   obtain⟨r,rfl⟩:=p1
   rw[List.getElem?_append_left (List.getElem?_eq_some_iff.mp hn).1]
   exact hn
  cases ec:S1[n]? with
  |none=>simp only[ec] at q1;exact q1.elim
  |some c=>
   obtain⟨a',ha',qc⟩:=R1.get ec
   rw[hn1] at ha';cases ha'
   cases c with
   |dct _=>simp only[ec] at q1;exact q1.elim
   |ins _ _=>simp only[ec] at q1;exact q1.elim
   |lst ws=>
    simp only[ec] at q1
    obtain⟨vs,h1,r1⟩:=qc
    cases ew:ws[i]? with
    |none=>
     simp only[ew] at q1
     refine .inl ⟨⟨vs,.inl (.inl h1),?_⟩,q1.nxt R1 sl1⟩
     rw[←r1.length]
     exact List.getElem?_eq_none_iff.mp ew
    |some w=>
     simp only[ew] at q1
     obtain⟨v,ev,rv⟩:=r1.get ew
     refine .inr ⟨⟨vs,v,.inl (.inl h1),ev⟩,fun σ2 H2=>∃ρ2 S2 δ2,ρ <+: ρ2∧Rep Θ ρ2 S2 H2∧RSs Θ ρ2 H2 δ2 σ2∧Dd Θ ρ2 H2 (forL s b n m (i+1) δ2 S2) D E,fun σ2 H2 h=>⟨m,Nat.lt_succ_self m,h⟩,?_⟩
     rintro x H' ⟨rfl,hx⟩
     have e2:=hx vs (.inl (.inl h1))
     rw[ev] at e2
     cases e2
     cases es:s w δ1 with
     |none=>simp only[es] at q1;exact q1.elim
     |some δ2=>
      simp only[es] at q1
      refine gk ρ1 S1 H' w v δ1 δ2 σ1 _ R1 sl1 rv es fun σ2 sl2=>⟨ρ1,S1,δ2,R1,sl2,?_⟩
      cases e:b δ2 S1 with
      |nx δ3 S3=>
       rw[e] at q1
       exact fun ρ3 H3 σ3 p3 t3 R3 sl3=>⟨ρ3,S3,δ3,p1.trans p3,R3,sl3,Dd.shift q1 p3 t3⟩
      |ct δ3 S3=>
       rw[e] at q1
       exact fun ρ3 H3 σ3 p3 t3 R3 sl3=>⟨ρ3,S3,δ3,p1.trans p3,R3,sl3,Dd.shift q1 p3 t3⟩
      |bk δ3 S3=>
       rw[e] at q1
       exact fun ρ3 H3 σ3 p3 t3 R3 sl3=>q1 ρ3 H3 σ3 p3 t3 R3 sl3
      |_=>rw[e] at q1;exact q1
end
inductive Src where
 |fix (ws:List W)
 |liv (n:Nat)
 |zl (n m:Nat)
def chars (z:Str):List W:=z.cps.toList.map fun c=>W.str ⟨#[c]⟩
def Arh (ns:List Int) (x:W):M Src:=match x with
 |.tup ws=>pure (.fix ws)
 |.scr=>pure (.fix (ns.map W.int))
 |.str z=>if z.length≤big then pure (.fix (chars z)) else bad
 |.ref n=>fun S=>match S[n]? with
  |some (.lst _)=>.ok (.liv n) S
  |_=>.bad
 |_=>bad
def Eh (ns:List Int) (f:De->M W):De->M Src:=fun δ=>do let x←f δ;Arh ns x
def Hq:List W->M Src
 |[.int j]=>if -(2 ^ 62)≤j∧j < 2 ^ 62 then pure (.fix ((List.range j.toNat).map fun(k:Nat)=>W.int ((0:Int)+(k:Int)))) else bad
 |_=>bad
def At8:List W->M Src
 |[.int i,.int j]=>if -(2 ^ 62)≤i∧i < 2 ^ 62∧-(2 ^ 62)≤j∧j < 2 ^ 62 then pure (.fix ((List.range (j - i).toNat).map fun(k:Nat)=>W.int (i+(k:Int)))) else bad
 |_=>bad
def Lh (r:List W->M Src) (f:De->M (List W)):De->M Src:=fun δ=>do let x←f δ;r x
def Vd (src:De->M Src) (s:Tg) (b:MS):MS:=fun δ=>El (src δ) (fun z=>match z with
 |.fix ws=>Lg s b ws
 |.liv n=>fun δ S=>match S[n]? with
  |some (.lst ws)=>forL s b n (ws.length+1) 0 δ S
  |_=>.bad
 |.zl _ _=>fun _ _=>.bad) δ
def Su (Θ:Th) (ρ:List Addr) (H:Hp) (z:Src) (J:It):Prop:=match z with
 |.fix ws=>JOk Θ J ws ρ H
 |.liv n=>∃a,ρ[n]?=some a∧J=Itl Θ.K a
 |.zl n m=>∃a b,ρ[n]?=some a∧ρ[m]?=some b∧J=Itz Θ.K false a b
def tFi (Θ:Th) (E:L2.St->XK) (f:De->M Src):TI:=fun σ H Q=>∃ρ S δ,Rep Θ ρ S H∧RSl Θ ρ H δ σ∧Ax Θ (Su Θ) ρ H (f δ S) Q (E σ)
section
variable {Θ:Th} {ρ:List Addr} {S:Store} {H:Hp}
theorem Ari {a:Addr} {ws:List W} {vs:List V} (h:H a=some (.tup vs)) (r:RVs Θ ρ H ws vs):JOk Θ (Itt Θ.K a) ws ρ H where
 go:=fun ρ1 H1 i p t hi=>by
  obtain⟨v,e,rv⟩:=r.get (List.getElem?_eq_getElem hi)
  have sq:SqT Θ.K H1 a vs:=SqT.of (t.t _ _ h)
  refine⟨⟨vs,v,sq,e⟩,?_⟩
  rintro x H' ⟨rfl,hx⟩
  have z:=hx vs sq
  rw[e] at z
  cases z
  exact⟨Cu.refl _ _,fun _ r=>r,_,List.getElem?_eq_getElem hi,rv.mono p t⟩
 stop:=fun ρ1 H1 i t hi=>⟨vs,SqT.of (t.t _ _ h),by rw[←r.length,hi];exact Nat.le_refl _⟩
theorem Arj (h:Scr Θ H):JOk Θ (Itl Θ.K Θ.l) (Θ.ns.map W.int) ρ H where
 go:=fun ρ1 H1 i p t hi=>by
  have sq:=(h.mono t).sq
  rw[List.length_map] at hi
  have e:(Θ.ns.map V.int)[i]?=some (.int Θ.ns[i]):=by rw[List.getElem?_map,List.getElem?_eq_getElem hi];rfl
  refine⟨⟨_,_,sq,e⟩,?_⟩
  rintro x H' ⟨rfl,hx⟩
  have z:=hx _ sq
  rw[e] at z
  cases z
  exact⟨Cu.refl _ _,fun _ r=>r,.int Θ.ns[i],by rw[List.getElem?_map,List.getElem?_eq_getElem hi];rfl,.int _⟩
 stop:=fun ρ1 H1 i t hi=>⟨_,(h.mono t).sq,by rw[List.length_map] at hi ⊢;omega⟩
theorem Ahn (lo:Int) (n:Nat):JOk Θ (Itr lo n) ((List.range n).map fun(k:Nat)=>W.int (lo+(k:Int))) ρ H where
 go:=fun ρ1 H1 i p t hi=>by
  rw[List.length_map,List.length_range] at hi
  refine⟨hi,?_⟩
  rintro x H' ⟨rfl,rfl⟩
  exact⟨Cu.refl _ _,fun _ r=>r,.int (lo+i),by rw[List.getElem?_map,List.getElem?_range hi];rfl,.int _⟩
 stop:=fun ρ1 H1 i t hi=>by rw[List.length_map,List.length_range] at hi;exact Nat.le_of_eq hi.symm
theorem Ark (z:Str):JOk Θ (Its z) (chars z) ρ H where
 go:=fun ρ1 H1 i p t hi=>by
  unfold chars at hi ⊢
  rw[List.length_map,Array.length_toList] at hi
  refine⟨hi,?_⟩
  rintro x H' ⟨rfl,c,hc,rfl⟩
  exact⟨Cu.refl _ _,fun _ r=>r,.str ⟨#[c]⟩,by rw[List.getElem?_map,Array.getElem?_toList,hc];rfl,.str _⟩
 stop:=fun ρ1 H1 i t hi=>by
  unfold chars at hi
  rw[List.length_map,Array.length_toList] at hi
  exact hi
end
section
variable {Θ:Th} {X:Cx} {e a b c:Expr} {tg:Expr} {p pos:Pos} {E:L2.St->XK} {f:De->M W} {gs:De->M (List W)} {bd:MS} {s:Tg} {g:TG}
theorem WI.weak {t t':TI} (h:WI X tg e t) (k:∀σ H Q,t' σ H Q->t σ H Q):WI X tg e t':=⟨fun pins s σ H Q I q=>h.un pins s σ H Q I (k σ H Q q)⟩
theorem WI.or {t t':TI} (h:WI X tg e t) (h':WI X tg e t'):WI X tg e (fun σ H Q=>t σ H Q∨t' σ H Q):=⟨fun pins s σ H Q I q=>by
 rcases q with q|q
 .exact h.un pins s σ H Q I q
 .exact h'.un pins s σ H Q I q⟩
theorem Adh (hK:X.K=Θ.K) (h:WE X e (tF Θ E f)):WI X tg e (tFi Θ E (Eh Θ.ns f)):=
 WI.weak (WI.or (WI.or (Av7 h) (Aqk h)) (Av6 h)) fun σ H Q ⟨ρ,S,δ,R,sl,q⟩=>by
  rw[hK]
  have go:∀(pr:V->Hp->Prop),(∀v H1 ρ1 S1 w,Rep Θ ρ1 S1 H1->RV Θ ρ1 H1 w v->Ax Θ (Su Θ) ρ1 H1 (Arh Θ.ns w S1) Q (E σ)->f δ S=.ok w S1->pr v H1)->tF Θ E f σ H pr:=fun pr k=>by
   refine⟨ρ,S,δ,R,sl,?_⟩
   have q2:=Ax.seq (Rel:=RV Θ) q
   cases ef:f δ S with
   |bad=>rw[ef] at q2;exact q2
   |exc c S1=>rw[ef] at q2;exact q2
   |ok w S1=>
    rw[ef] at q2
    intro ρ1 H1 v p1 t1 R1 rv
    have q:Ax Θ (Su Θ) ρ H (M.bind (f δ) (Arh Θ.ns) S) Q (E σ):=q
    unfold M.bind at q
    rw[ef] at q
    exact k v H1 ρ1 S1 w R1 rv (Ax.shift q p1 t1) ef
  cases ef:f δ S with
  |bad=>exact .inl (.inl (go _ fun v H1 ρ1 S1 w R1 rv q1 e1=>by rw[ef] at e1;cases e1))
  |exc c S1=>exact .inl (.inl (go _ fun v H1 ρ1 S1 w R1 rv q1 e1=>by rw[ef] at e1;cases e1))
  |ok w0 S0=>
   cases w0 with
   |str z=>
    refine .inr (go _ fun v H1 ρ1 S1 w R1 rv q1 e1=>?_)
    rw[ef] at e1;cases e1;cases rv
    obtain⟨hz,q1⟩:=Ft q1
    exact⟨_,rfl,Ax.now q1 R1 (Ark _)⟩
   |tup ws=>
    refine .inl (.inl (go _ fun v H1 ρ1 S1 w R1 rv q1 e1=>?_))
    rw[ef] at e1;cases e1
    cases rv with
    |tup h1 r1=>exact⟨_,rfl,⟨_,SqT.of h1⟩,Ax.now (Rel:=Su Θ) q1 R1 (Ari h1 r1)⟩
   |scr=>
    refine .inl (.inr (go _ fun v H1 ρ1 S1 w R1 rv q1 e1=>?_))
    rw[ef] at e1;cases e1
    cases rv with
    |scr hs=>exact⟨_,rfl,⟨_,hs.sq⟩,Ax.now (Rel:=Su Θ) q1 R1 (Arj hs)⟩
   |ref n=>
    refine .inl (.inr (go _ fun v H1 ρ1 S1 w R1 rv q1 e1=>?_))
    rw[ef] at e1;cases e1
    cases rv with
    |@ref _ a hn=>
     simp only[Arh] at q1
     split at q1
     .rename_i us e2
      obtain⟨a',ha',vs,h2,r2⟩:=R1.get e2
      rw[hn] at ha';cases ha'
      exact⟨_,rfl,⟨vs,.inl (.inl h2)⟩,Hv (Rel:=Su Θ) q1 R1 ⟨a,hn,rfl⟩⟩
     .exact(show False from q1).elim
   |_=>
    refine .inl (.inl (go _ fun v H1 ρ1 S1 w R1 rv q1 e1=>?_))
    rw[ef] at e1;cases e1
    exact(show False from q1).elim
theorem Awn {iter:Expr} {body:List Stmt} {src:De->M Src} (hp:PassesOwn (model X.prog X.w) X.A X.env X.xe) (hK:X.K=Θ.K) (hc:X.calm=true) (hi:WI X tg iter (tFi Θ E src)) (hg:WG X tg g) (gk:GOk Θ s g) (hb:WSs X body (tS Θ E bd)) (hs:∀x,foldedSetIterable iter X.env x=pure x) :
  WS X (.For tg iter body [] pos) (tS Θ E (Vd src s bd)):=WS.weak ⟨Au3 hp hc hi.un hg.un hb.un hs⟩ fun D σ H ⟨ρ,S,δ,R,sl,q⟩=>by
 refine⟨ρ,S,δ,R,sl.2,(Dd.lift (Rel:=Su Θ) sl q).mono ?_⟩
 rintro J H1 ⟨ρ1,S1,z,p1,t1,R1,sl1,rj,q1⟩
 cases z with
 |fix ws=>exact Are gk rj R1 sl1 q1
 |liv n=>
  obtain⟨a,hn,rfl⟩:=rj
  simp only at q1
  split at q1
  .exact Arf gk hn R1 sl1 q1
  .exact q1.elim
 |zl n m=>exact q1.elim
end
section
variable {Θ:Th} {X:Cx} {e a b c:Expr} {tg:Expr} {p pos:Pos} {E:L2.St->XK} {f:De->M W} {gs:De->M (List W)}
theorem Awo (hm:X.mg "range"=none) (ha:WA X [a] (tFs Θ E gs)) (hg:X.env.kindOf "range"=some .globalImplicit) (hs:starEach [a] X.env=[(false,eval a X.env)]):WI X tg (.Call (.Name "range" p) [a] [] pos) (tFi Θ E (Lh Hq gs)):=
 WI.weak (Aqi hm ha hg hs) fun σ H Q ⟨ρ,S,δ,R,sl,q⟩=>by
  refine⟨ρ,S,δ,R,sl,(Ax.seq (Rel:=RVs Θ) q).mono ?_⟩
  rintro vs H1 ⟨ρ1,S1,ws,p1,t1,R1,rvs,q1⟩
  cases rvs with
  |nil=>exact(show False from q1).elim
  |cons h1 r=>
   cases r with
   |cons _ _=>cases h1 <;> exact(show False from q1).elim
   |nil=>
    cases h1 <;> try exact(show False from q1).elim
    obtain⟨hz,q1⟩:=Ft q1
    exact⟨_,rfl,hz.1,hz.2,Ax.now (Rel:=Su Θ) q1 R1 (Ahn 0 _)⟩
theorem Awp (hm:X.mg "range"=none) (ha:WA X [a,b] (tFs Θ E gs)) (hg:X.env.kindOf "range"=some .globalImplicit) (hs:starEach [a,b] X.env=[(false,eval a X.env),(false,eval b X.env)]) (hs2:starEach [b] X.env=[(false,eval b X.env)]) :
  WI X tg (.Call (.Name "range" p) [a,b] [] pos) (tFi Θ E (Lh At8 gs)):=
 WI.weak (Aqj hm ha hg hs hs2) fun σ H Q ⟨ρ,S,δ,R,sl,q⟩=>by
  refine⟨ρ,S,δ,R,sl,(Ax.seq (Rel:=RVs Θ) q).mono ?_⟩
  rintro vs H1 ⟨ρ1,S1,ws,p1,t1,R1,rvs,q1⟩
  cases rvs with
  |nil=>exact(show False from q1).elim
  |cons h1 r=>
   cases r with
   |nil=>cases h1 <;> exact(show False from q1).elim
   |cons h2 r=>
    cases r with
    |cons _ _=>cases h1 <;> cases h2 <;> exact(show False from q1).elim
    |nil=>
     cases h1 <;> cases h2 <;> try exact(show False from q1).elim
     obtain⟨hz,q1⟩:=Ft q1
     exact⟨_,_,rfl,hz,Ax.now (Rel:=Su Θ) q1 R1 (Ahn _ _)⟩
end
inductive Ty where
 |lst|str
def Ty.is:Ty->W->Store->Bool
 |.lst,.ref n,S=>match S[n]? with
  |some (.lst _)=>true
  |_=>false
 |.str,.str _,_=>true
 |_,_,_=>false
def Ty.name:Ty->String
 |.lst=>"list"
 |.str=>"str"
def Ji (T:Ty) (op:W->List W->M W) (f:De->M W) (gs:De->M (List W)):De->M W:=fun δ=>do
 let x←f δ
 let _←(fun S=>if T.is x S then .ok () S else .bad:M Unit)
 let ws←gs δ
 op x ws
def Wx (x:W) (k:Nat->List W->M W):M W:=match x with
 |.ref n=>fun S=>match S[n]? with
  |some (.lst ws)=>k n ws S
  |_=>.bad
 |_=>bad
def putL (n:Nat) (ws:List W) (r:W):M W:=fun S=>if ws.length≤big then .ok r (S.set n (.lst ws)) else .bad
def Ox (x:W) (us:List W):M W:=Wx x fun n ws=>match us with
 |[u]=>putL n (ws ++ [u]) .non
 |_=>bad
def Bc7 (x:W) (us:List W):M W:=Wx x fun n ws=>match us with
 |[]=>match ws[ws.length - 1]? with
  |some w=>putL n ws.dropLast w
  |none=>bad
 |_=>bad
def Mg (x:W) (us:List W):M W:=Wx x fun n ws=>match us with
 |[.int i]=>if ws.length≤big then match ixN ws.length i with
  |some j=>match ws[j]? with
   |some w=>putL n (ws.eraseIdx j) w
   |none=>bad
  |none=>bad else bad
 |_=>bad
def J2 (x:W) (us:List W):M W:=match x,us with
 |.str z,[.ref n]=>fun S=>match S[n]? with
  |some (.lst ws)=>match Eg Adc ws with
   |some ys=>if (ys.map (·.length)).sum+ys.length * z.length≤big then .ok (.str (Txt.join z ys)) S else .bad
   |none=>.bad
  |_=>.bad
 |_,_=>bad
def Amp (x:W) (us:List W):M W:=match x,us with
 |.str z,[.str y]=>pure (.int (Txt.find z y))
 |_,_=>bad
def Afz (x:W) (us:List W):M W:=match x,us with
 |.str z,[.str y]=>pure (.int (Txt.rfind z y))
 |_,_=>bad
def Abd (x:W) (us:List W):M W:=match x,us with
 |.str z,[.int i,.str f]=>if PadOk i&&decide (f.length=1) then pure (.str (Txt.ljustF z i (f.cps.getD 0 0))) else bad
 |_,_=>bad
def Abe (x:W) (us:List W):M W:=match x,us with
 |.str z,[.str y]=>if z.length≤big then pure (.str (Txt.stripChars z y)) else bad
 |_,_=>bad
theorem Amq {X:Cx}:MtR X "str.ljust" (fun x vs H Q=>∃z i f,x=.str z∧vs=[.int i,.str f]∧PadOk i=true∧f.length=1∧Q (.str (Txt.ljustF z i (f.cps.getD 0 0))) H):=by
 intro pins s σ H x vs v us Q I rx rv h
 obtain⟨z,i,f,rfl,rfl,hp,hf,q⟩:=h
 obtain⟨t,rfl⟩:=rx
 obtain⟨u,w,rfl,⟨t1,rfl⟩,t2,rfl⟩:=rv.two
 exact ljust_fill hp hf fun t' k=>⟨.str _,H,I.tok _,⟨_,rfl⟩,q⟩
section
variable {Θ:Th} {ρ:List Addr} {S:Store} {H:Hp} {x:W} {vx:V} {us:List W} {vs:List V} {Q:VK} {E:XK}
theorem Arl (R:Rep Θ ρ S H) (hx:RV Θ ρ H x vx) (r:RVs Θ ρ H us vs) (h:Ax Θ (RV Θ) ρ H (Abd x us S) Q E):∃z i f,vx=.str z∧vs=[.int i,.str f]∧PadOk i=true∧f.length=1∧Q (.str (Txt.ljustF z i (f.cps.getD 0 0))) H:=by
 unfold Abd at h
 split at h
 .rename_i z i f
  cases hx
  cases r with|cons r1 r=>
  cases r with|cons r2 r=>
  cases r
  cases r1
  cases r2
  obtain⟨hc,h⟩:=Ft h
  rw[Bool.and_eq_true] at hc
  exact⟨_,_,_,rfl,rfl,hc.1,of_decide_eq_true hc.2,h.now R (.str _)⟩
 .exact(show False from h).elim
theorem Adi {k:Nat->List W->M W} (R:Rep Θ ρ S H) (hx:RV Θ ρ H x vx) (h:Ax Θ (RV Θ) ρ H (Wx x k S) Q E) :
  ∃n a ws zs,x=.ref n∧vx=.ref a∧ρ[n]?=some a∧S[n]?=some (.lst ws)∧H a=some (.lst zs)∧RVs Θ ρ H ws zs∧Ax Θ (RV Θ) ρ H (k n ws S) Q E:=by
 cases hx <;> try exact(show False from h).elim
 rename_i n a hn
 simp only[Wx] at h
 split at h
 .rename_i ws e1
  obtain⟨a',ha',zs,h2,r2⟩:=R.get e1
  rw[hn] at ha';cases ha'
  exact⟨n,a,ws,zs,rfl,rfl,hn,e1,h2,r2,h⟩
 .exact(show False from h).elim
theorem Aho {n:Nat} {a:Addr} {ws:List W} {zs0 zs:List V} {r:W} {vr:V} (R:Rep Θ ρ S H) (hn:ρ[n]?=some a) (h0:H a=some (.lst zs0)) (rz:RVs Θ ρ H ws zs) (rr:RV Θ ρ H r vr) (h:Ax Θ (RV Θ) ρ H (putL n ws r S) Q E) :
  zs.length≤big∧Q vr (upd H a (.lst zs)):=by
 simp only[putL] at h
 split at h
 .rename_i hz
  have t:Cu ρ ρ H (upd H a (.lst zs)):=Wo hn h0 (fun _ e=>by cases e) (fun _ _ e=>by cases e)
  refine⟨by rw[←rz.length];exact hz,h ρ _ vr (List.prefix_refl _) t (R.write hn t ⟨zs,Bo,rz.mono (List.prefix_refl _) t⟩) (rr.mono (List.prefix_refl _) t)⟩
 .exact(show False from h).elim
theorem Amr (R:Rep Θ ρ S H) (hx:RV Θ ρ H x vx) (r:RVs Θ ρ H us vs) (h:Ax Θ (RV Θ) ρ H (Ox x us S) Q E):Ahd vx vs H Q:=by
 obtain⟨n,a,ws,zs,rfl,rfl,hn,e1,h1,r1,h⟩:=Adi R hx h
 cases r with
 |nil=>exact(show False from h).elim
 |cons hu r=>
  cases r with
  |cons _ _=>exact(show False from h).elim
  |nil=>
   obtain⟨hz,q⟩:=Aho R hn h1 (r1.append (.cons hu .nil)) .non h
   rw[List.length_append,List.length_singleton] at hz
   exact⟨a,zs,_,rfl,rfl,h1,Ie hz,q⟩
theorem RVs.erase:∀{ws:List W} {zs:List V} (i:Nat),RVs Θ ρ H ws zs->RVs Θ ρ H (ws.eraseIdx i) (zs.eraseIdx i)
 |_,_,_,.nil=>.nil
 |_,_,0,.cons _ r=>r
 |_,_,i+1,.cons h r=>.cons h (RVs.erase i r)
theorem Arm (R:Rep Θ ρ S H) (hx:RV Θ ρ H x vx) (r:RVs Θ ρ H us vs) (h:Ax Θ (RV Θ) ρ H (Mg x us S) Q E):Aln vx vs H Q:=by
 obtain⟨n,a,ws,zs,rfl,rfl,hn,e1,h1,r1,h⟩:=Adi R hx h
 cases r with
 |nil=>exact(show False from h).elim
 |cons hu r=>
  cases r with
  |cons _ _=>cases hu <;> exact(show False from h).elim
  |nil=>
   cases hu with
   |int i=>
    obtain⟨hz,h⟩:=Ft h
    cases ej:ixN ws.length i with
    |none=>simp only[ej] at h;exact(show False from h).elim
    |some j=>
     cases ew:ws[j]? with
     |none=>simp only[ej,ew] at h;exact(show False from h).elim
     |some w=>
      simp only[ej,ew] at h
      obtain⟨v,ev,rv⟩:=r1.get ew
      obtain⟨_,q⟩:=Aho R hn h1 (r1.erase j) rv h
      rw[r1.length] at ej
      obtain⟨s1,s2,s3,s4⟩:=Ahc ej
      have hn:=R7
      have hl:=Ie hz
      rw[r1.length] at hl
      exact⟨a,zs,i,j,v,rfl,rfl,h1,by omega,by omega,s1,ev,q⟩
   |_=>exact(show False from h).elim
theorem Awq (R:Rep Θ ρ S H) (hx:RV Θ ρ H x vx) (r:RVs Θ ρ H us vs) (h:Ax Θ (RV Θ) ρ H (Amp x us S) Q E):∃z y,vx=.str z∧vs=[.str y]∧Q (.int (Txt.find z y)) H:=by
 cases hx <;> try exact(show False from h).elim
 cases r with
 |nil=>exact(show False from h).elim
 |cons hu r=>
  cases r with
  |cons _ _=>cases hu <;> exact(show False from h).elim
  |nil=>
   cases hu <;> try exact(show False from h).elim
   exact⟨_,_,rfl,rfl,h.now R (.int _)⟩
theorem Arn (R:Rep Θ ρ S H) (hx:RV Θ ρ H x vx) (r:RVs Θ ρ H us vs) (h:Ax Θ (RV Θ) ρ H (Abe x us S) Q E):∃z y,vx=.str z∧vs=[.str y]∧z.length≤sizeLine∧Q (.str (Txt.stripChars z y)) H:=by
 cases hx <;> try exact(show False from h).elim
 cases r with
 |nil=>exact(show False from h).elim
 |cons hu r=>
  cases r with
  |cons _ _=>cases hu <;> exact(show False from h).elim
  |nil=>
   cases hu <;> try exact(show False from h).elim
   obtain⟨hz,h⟩:=Ft h
   exact⟨_,_,rfl,rfl,Ie hz,h.now R (.str _)⟩
theorem Aro (R:Rep Θ ρ S H) (hx:RV Θ ρ H x vx) (r:RVs Θ ρ H us vs) (h:Ax Θ (RV Θ) ρ H (Afz x us S) Q E):∃z y,vx=.str z∧vs=[.str y]∧Q (.int (Txt.rfind z y)) H:=by
 cases hx <;> try exact(show False from h).elim
 cases r with
 |nil=>exact(show False from h).elim
 |cons hu r=>
  cases r with
  |cons _ _=>cases hu <;> exact(show False from h).elim
  |nil=>
   cases hu <;> try exact(show False from h).elim
   exact⟨_,_,rfl,rfl,h.now R (.int _)⟩
theorem Awr (R:Rep Θ ρ S H) (hx:RV Θ ρ H x vx) (r:RVs Θ ρ H us vs) (h:Ax Θ (RV Θ) ρ H (J2 x us S) Q E):∃z p ys,vx=.str z∧vs=[.ref p]∧H p=some (.lst (ys.map V.str))∧(ys.map (·.length)).sum+ys.length * z.length≤16777216∧Q (.str (Txt.join z ys)) H:=by
 cases hx <;> try exact(show False from h).elim
 cases r with
 |nil=>exact(show False from h).elim
 |cons hu r=>
  cases r with
  |cons _ _=>cases hu <;> exact(show False from h).elim
  |nil=>
   cases hu <;> try exact(show False from h).elim
   rename_i z n a hn
   simp only[J2] at h
   split at h
   .rename_i ws e1
    split at h
    .rename_i ys e2
     split at h
     .rename_i hz
      obtain⟨a',ha',zs,h2,r2⟩:=R.get e1
      rw[hn] at ha';cases ha'
      rw[Lf Adf r2 e2] at h2
      exact⟨z,a,ys,rfl,rfl,h2,Nat.le_trans hz (by decide),Hv h R (.str _)⟩
     .exact(show False from h).elim
    .exact(show False from h).elim
   .exact(show False from h).elim
end
def Arp (x:Str):Option (Ty×(W->List W->M W)):=
 if x="append" then some (.lst,Ox) else if x="pop" then some (.lst,Mg)
 else if x="join" then some (.str,J2) else if x="find" then some (.str,Amp) else if x="rfind" then some (.str,Afz)
 else if x="ljust" then some (.str,Abd) else if x="strip" then some (.str,Abe) else none
structure Bct (Θ:Th) (X:Cx) (T:Ty) (name:Str) (op:W->List W->M W) where
 id:String
 pa:PlainAttrs T.name
 slot:Slot T.name name id
 ty:typeOf (.builtin id)=pure (.type "method_descriptor")
 r:V->List V->Hp->VK->Prop
 ok:MtR X id r
 by_:∀ρ S H x vx us vs Q E,Rep Θ ρ S H->RV Θ ρ H x vx->RVs Θ ρ H us vs->Ax Θ (RV Θ) ρ H (op x us S) Q E->r vx vs H Q
theorem Arq {Θ:Th} {X:Cx} {name:Str} {T:Ty} {op:W->List W->M W} (h:Arp name=some (T,op)):Nonempty (Bct Θ X T name op):=by
 unfold Arp at h
 split at h
 .rename_i e;subst e;cases h
  exact⟨⟨_,PySem.F.plainAttrs_list,PySem.F.slot_list_append,PySem.F.type_list_append,_,Y5,fun ρ S H x vx us vs Q E R hx r h=>Amr R hx r h⟩⟩
 split at h
 .rename_i e;subst e;cases h
  exact⟨⟨_,PySem.F.plainAttrs_list,PySem.F.slot_list_pop,PySem.F.type_list_pop,_,Alo,fun ρ S H x vx us vs Q E R hx r h=>Arm R hx r h⟩⟩
 split at h
 .rename_i e;subst e;cases h
  exact⟨⟨_,PySem.F.plainAttrs_str,PySem.F.slot_str_join,PySem.F.type_str_join,_,Ap6,fun ρ S H x vx us vs Q E R hx r h=>Awr R hx r h⟩⟩
 split at h
 .rename_i e;subst e;cases h
  exact⟨⟨_,PySem.F.plainAttrs_str,PySem.F.slot_str_find,PySem.F.type_str_find,_,Aqd,fun ρ S H x vx us vs Q E R hx r h=>Awq R hx r h⟩⟩
 split at h
 .rename_i e;subst e;cases h
  exact⟨⟨_,PySem.F.plainAttrs_str,PySem.F.slot_str_rfind,PySem.F.type_str_rfind,_,Al5,fun ρ S H x vx us vs Q E R hx r h=>Aro R hx r h⟩⟩
 split at h
 .rename_i e;subst e;cases h
  exact⟨⟨_,PySem.F.plainAttrs_str,PySem.F.slot_str_ljust,PySem.F.type_str_ljust,_,Amq,fun ρ S H x vx us vs Q E R hx r h=>Arl R hx r h⟩⟩
 split at h
 .rename_i e;subst e;cases h
  exact⟨⟨_,PySem.F.plainAttrs_str,PySem.F.slot_str_strip,PySem.F.type_str_strip,_,Al6,fun ρ S H x vx us vs Q E R hx r h=>Arn R hx r h⟩⟩
 .cases h
section
variable {Θ:Th} {X:Cx} {o e a b c:Expr} {es:List Expr} {name:Str} {apos cpos:Pos} {E:L2.St->XK} {f:De->M W} {gs:De->M (List W)} {T:Ty} {op:W->List W->M W}
theorem Ty.is_ok {ρ:List Addr} {S:Store} {H:Hp} {x:W} {v:V} {K:PySem.W.Frag} (R:Rep Θ ρ S H) (rv:RV Θ ρ H x v) (h:T.is x S=true):tyV K T.name v H:=by
 cases T with
 |str=>cases rv <;> first|rfl|exact absurd h Bool.false_ne_true
 |lst=>
  cases rv <;> try exact absurd h Bool.false_ne_true
  rename_i n a hn
  simp only[Ty.is] at h
  split at h
  .rename_i ws e1
   obtain⟨a',ha',zs,h2,r2⟩:=R.get e1
   rw[hn] at ha';cases ha'
   exact .inl ⟨rfl,zs,.inl (.inl h2)⟩
  .exact absurd h Bool.false_ne_true
theorem Bcu (hx:Arp name=some (T,op)) (ho:WE X o (tF Θ E f)) (ha:WA X (e::es) (tFs Θ E gs)) (hbase:attributeBase o name X.env (eval o X.env)=eval o X.env)
  (hfew:((backTo cpos (starEach (e::es) X.env)).all (fun x=>!x.1)&&(backToKw cpos (keywordEach [] X.env)).all (fun x=>x.1.isSome)&&decide ((e::es).length+([]:List Keyword).length+(if ([]:List Keyword).isEmpty then 0 else 1) < 30))=true)
  (hline:(apos.endLine==cpos.line)=true) (he:starEach (e::es) X.env=(false,eval e X.env)::starEach es X.env) (hpl:(backTo cpos (starEach es X.env)).any (·.1)=false) :
  WE X (.Call (.Attribute o name apos) (e::es) [] cpos) (tF Θ E (Ji T op f gs)):=by
 obtain⟨m⟩:=Arq (Θ:=Θ) (X:=X) hx
 refine WE.weak (kbm m.pa m.slot m.ty m.ok ho ha hbase hfew hline he hpl) fun σ H Q ⟨ρ,S,δ,R,sl,q⟩=>?_
 refine⟨ρ,S,δ,R,sl,(Ax.seq (Rel:=RV Θ) q).mono ?_⟩
 rintro v H1 ⟨ρ1,S1,w,p1,t1,R1,rv,q1⟩
 have q1:Ax Θ (RV Θ) ρ1 H1 (M.bind (fun S=>if T.is w S then .ok () S else .bad) (fun _=>(gs δ) >>= fun ws=>op w ws) S1) Q (E σ):=q1
 unfold M.bind at q1
 by_cases ht:T.is w S1=true
 .simp only[ht,if_true] at q1
  refine⟨Ty.is_ok R1 rv ht,ρ1,S1,δ,R1,sl.mono p1 t1,(Ax.seq (Rel:=RVs Θ) q1).mono ?_⟩
  rintro vs H2 ⟨ρ2,S2,ws,p2,t2,R2,rvs,q2⟩
  exact m.by_ ρ2 S2 H2 w v ws vs Q (E σ) R2 (rv.mono p2 t2) rvs q2
 .simp only[ht,if_false] at q1
  exact q1.elim
end
theorem Ajw {CX:CXT} {P:Program} {w:World} {K:PySem.W.Frag} {mg:Str->Option Value} {base:Heap} {N:List Str} {qual:Str} {scope:Scope} {f:Addr} {cd:Value} {A:Around} {outer:List Env} {s:Shared} {H:Hp} {E:XK} {cm:Bool} :
  PassesOwn (model P w) (P0 CX P w K mg base N qual scope f cd A outer s H E cm).A (P0 CX P w K mg base N qual scope f cd A outer s H E cm).env (P0 CX P w K mg base N qual scope f cd A outer s H E cm).xe:=
 fun e s' h=>PassesOwn.leaving (Q₁:=fun e s''=>CX outer H s E e s'') (E₁:=fun e' s''=>CX outer H s E e' s'') e s' h
def Ams (c d:De->M Bool):De->M Bool:=fun δ=>do let x←c δ;if x then d δ else pure false
def orT (c d:De->M Bool):De->M Bool:=fun δ=>do let x←c δ;if x then pure true else d δ
def Mh (c:De->M Bool):De->M Bool:=fun δ=>do let x←c δ;pure (!x)
section
variable {Θ:Th} {X:Cx} {a b c e:Expr} {rest:List Expr} {pos:Pos} {E:L2.St->XK} {f g:De->M W} {cf df:De->M Bool}
theorem WW.weak {t t':TT} (h:WW X e t) (k:∀σ H Q,t' σ H Q->t σ H Q):WW X e t':=⟨fun wh pins s σ H Q I q=>h.un wh pins s σ H Q I (k σ H Q q)⟩
theorem Aws (ha:WT X a (tFb Θ E cf)) (hb:WW X (.BoolOp .And (b::rest) pos) (tFb Θ E df)):WW X (.BoolOp .And (a::b::rest) pos) (tFb Θ E (Ams cf df)):=WW.weak (Bb4 ha hb) fun σ H Q ⟨ρ,S,δ,R,sl,q⟩=>by
 refine⟨ρ,S,δ,R,sl,(Ax.seq (Rel:=fun _ _ a b=>a=b) q).mono ?_⟩
 rintro v H1 ⟨ρ1,S1,w,p1,t1,R1,rfl,q1⟩
 cases w with
 |true=>exact L2.Aau ⟨ρ1,S1,δ,R1,sl.mono p1 t1,q1⟩
 |false=>exact L2.Ac0 (Ax.now (Rel:=fun _ _ a b=>a=b) q1 R1 rfl)
theorem Bac (ha:WT X a (tFb Θ E cf)) (hb:WW X (.BoolOp .Or (b::rest) pos) (tFb Θ E df)):WW X (.BoolOp .Or (a::b::rest) pos) (tFb Θ E (orT cf df)):=WW.weak (tor ha hb) fun σ H Q ⟨ρ,S,δ,R,sl,q⟩=>by
 refine⟨ρ,S,δ,R,sl,(Ax.seq (Rel:=fun _ _ a b=>a=b) q).mono ?_⟩
 rintro v H1 ⟨ρ1,S1,w,p1,t1,R1,rfl,q1⟩
 cases w with
 |true=>exact L2.Aau (Ax.now (Rel:=fun _ _ a b=>a=b) q1 R1 rfl)
 |false=>exact L2.Ac0 ⟨ρ1,S1,δ,R1,sl.mono p1 t1,q1⟩
theorem Awt (ha:WT X a (tFb Θ E cf)):WT X (.UnaryOp .Not a pos) (tFb Θ E (Mh cf)):=WT.weak (Bb2 ha) fun σ H Q ⟨ρ,S,δ,R,sl,q⟩=>by
 refine⟨ρ,S,δ,R,sl,(Ax.seq (Rel:=fun _ _ a b=>a=b) q).mono ?_⟩
 rintro v H1 ⟨ρ1,S1,w,p1,t1,R1,rfl,q1⟩
 exact Ax.now (Rel:=fun _ _ a b=>a=b) q1 R1 rfl
theorem Amt (h:WE X e (tF Θ E f)) (he:∀whole,isTrue e X.env whole=(do let v←whole;standAt e.pos;holding [v] (truthy v))):WT X e (tFb Θ E (Az f)):=Afw (fun _ _ _ q=>q) (Bb3 h he)
end
def Mi (c:Nat) (gs:De->M (List W)):MS:=fun δ=>El (gs δ) (fun ws δ S=>if ws.length≤big then .ex (c,.non) δ S else .bad) δ
section
variable {Θ:Th} {X:Cx} {e:Expr} {es:List Expr} {x:Str} {p cpos pos:Pos} {E:XK} {gs:De->M (List W)}
theorem Amu {c:Nat} (hxf:Θ.xf c=none) (hx:Yj X.K (Θ.cl c)) (hm:X.mg x=some (.ref (Θ.cl c))) (hc:X.calm=true) (hR:Raises X E) (ha:WA X (e::es) (tFs Θ (fun _=>E) gs)) (hg:X.env.kindOf x=some .globalImplicit)
  (hd:(x==("__debug__":Str))=false) (he:starEach (e::es) X.env=(false,eval e X.env)::starEach es X.env) (hpl:(backTo cpos (starEach es X.env)).any (·.1)=false) :
  WS X (.Raise (some (.Call (.Name x p) (e::es) [] cpos)) none pos) (tS Θ (fun _=>E) (Mi c gs)):=WS.weak (Av8 hx hm hc hR ha hg hd he hpl) fun D σ H ⟨ρ,S,δ,R,sl,q⟩=>by
 refine⟨ρ,S,δ,R,sl.2,(Dd.lift (Rel:=RVs Θ) sl q).mono ?_⟩
 rintro vs H1 ⟨ρ1,S1,ws,p1,t1,R1,sl1,rvs,q1⟩
 by_cases hz:ws.length≤big
 .rw[if_pos hz] at q1
  have z:=q1 ρ1 H1 σ (List.prefix_refl _) (Cu.refl _ _) R1 sl1
  unfold XP at z
  dsimp only at z
  rw[hxf] at z
  exact⟨Ie (by rw[←rvs.length];exact hz),z⟩
 .rw[if_neg hz] at q1
  exact q1.elim
end
def O8 (kvs:List (Key×W)) (k:Key) (w:W):List (Key×W):=if kvs.any (fun p=>decide (p.1=k)) then kvs.map (fun p=>if p.1=k then (p.1,w) else p) else kvs ++ [(k,w)]
def Zj (x y v:W):M Unit:=match x with
 |.ref n=>fun S=>match S[n]? with
  |some (.dct kvs)=>match Wr y with
   |some k=>if kvs.length < big then .ok () (S.set n (.dct (O8 kvs k v))) else .bad
   |none=>.bad
  |_=>.bad
 |_=>bad
def Wy (f g h:De->M W):MS:=fun δ=>El (do let v←h δ;let x←f δ;let y←g δ;Zj x y v) (fun _=>.nx) δ
section
variable {Θ:Th} {ρ:List Addr} {S:Store} {H:Hp} {x y z:W} {vx vy vz:V} {E:XK}
theorem RKV.app {kvs ks:List (Key×W)} {vs us:List (Key×V)} (r:RKV Θ ρ H kvs vs) (t:RKV Θ ρ H ks us):RKV Θ ρ H (kvs ++ ks) (vs ++ us):=by
 unfold RKV at r t ⊢
 induction r with
 |nil=>exact t
 |cons h r ih=>exact .cons h ih
theorem RKV.put {kvs:List (Key×W)} {vs:List (Key×V)} (r:RKV Θ ρ H kvs vs) (k:Key) {w:W} {v:V} (h:RV Θ ρ H w v):RKV Θ ρ H (O8 kvs k w) (putK vs k v):=by
 have ea:kvs.any (fun p=>decide (p.1=k))=vs.any (fun p=>decide (p.1=k)):=by
  unfold RKV at r
  induction r with
  |nil=>rfl
  |cons hh r ih=>rw[List.any_cons,List.any_cons,ih,hh.1]
 unfold O8 putK
 rw[ea]
 split
 .rename_i hany
  clear ea hany
  unfold RKV at r ⊢
  induction r with
  |nil=>exact .nil
  |@cons p q _ _ hh r ih=>
   rw[List.map_cons,List.map_cons]
   refine .cons ?_ ih
   by_cases e:p.1=k
   .rw[if_pos e,if_pos (hh.1.symm.trans e)];exact⟨hh.1,h⟩
   .rw[if_neg e,if_neg (fun z=>e (hh.1.trans z))];exact hh
 .exact r.app (.cons ⟨rfl,h⟩ .nil)
theorem RKV.mono' {ρ':List Addr} {H':Hp} (p:ρ <+: ρ') (t:Cu ρ ρ' H H') {fs:List (Key×W)} {vs:List (Key×V)} (r:RKV Θ ρ H fs vs):RKV Θ ρ' H' fs vs:=Paired.imp2 (fun _ _ z=>⟨z.1,z.2.mono p t⟩) r
theorem Amv {Q:Unit->Hp->Prop} (R:Rep Θ ρ S H) (hx:RV Θ ρ H x vx) (hy:RV Θ ρ H y vy) (hz:RV Θ ρ H z vz) (h:Ax Θ (fun _ _ a b=>a=b) ρ H (Zj x y z S) Q E) :
  ∃a H',vx=.ref a∧Ai9 H a vy vz H'∧Q () H':=by
 cases hx <;> try exact(show False from h).elim
 rename_i n a hn
 simp only[Zj] at h
 split at h
 .rename_i kvs e1
  obtain⟨a',ha',vs,h2,r2⟩:=R.get e1
  rw[hn] at ha';cases ha'
  split at h
  .rename_i k ek
   rw[Vo hy ek]
   split at h
   .rename_i hl
    have el:kvs.length=vs.length:=paired_len r2
    have t:Cu ρ ρ H (upd H a (.dK (putK vs k vz))):=Wo hn h2 (fun _ e=>by cases e) (fun _ _ e=>by cases e)
    refine⟨a,_,rfl,Ai9.k h2 (by rw[←el];exact Nat.lt_of_lt_of_le hl (by decide)),?_⟩
    exact h ρ _ () (List.prefix_refl _) t (R.write hn t ⟨_,Bo,(r2.put k hz).mono' (List.prefix_refl _) t⟩) (by first|exact trivial|exact rfl)
   .exact(show False from h).elim
  .exact(show False from h).elim
 .exact(show False from h).elim
end
section
variable {Θ:Th} {X:Cx} {o b v:Expr} {pos pos':Pos} {E:L2.St->XK} {f g h:De->M W}
theorem Ars (hu:X.A.units+64 < cLine) (ho:WE X o (tF Θ E f)) (hi:WE X b (tF Θ E g)) (hv:WE X v (tF Θ E h)) (hs:swapsWith v (some (.Subscript o b pos')) pos.line X.env=pure false) :
  WS X (.Assign [.Subscript o b pos'] v pos) (tS Θ E (Wy f g h)):=WS.weak (Azo (by omega) ho hi hv hs) fun D σ H ⟨ρ,S,δ,R,sl,q⟩=>by
 have q0:=Dd.lift (Rel:=fun _ _ a b=>a=b) sl q
 refine⟨ρ,S,δ,R,sl.2,(Ax.seq (Rel:=RV Θ) q0).mono ?_⟩
 rintro vz H1 ⟨ρ1,S1,z,p1,t1,R1,rz,q1⟩
 refine⟨ρ1,S1,δ,R1,sl.2.mono p1 t1,(Ax.seq (Rel:=RV Θ) q1).mono ?_⟩
 rintro vx H2 ⟨ρ2,S2,x,p2,t2,R2,rx,q2⟩
 refine⟨ρ2,S2,δ,R2,(sl.2.mono p1 t1).mono p2 t2,(Ax.seq (Rel:=RV Θ) q2).mono ?_⟩
 rintro vy H3 ⟨ρ3,S3,y,p3,t3,R3,ry,q3⟩
 obtain⟨a,H',e1,e2,ρ4,S4,_,p4,t4,R4,sl4,_,q4⟩:=Amv R3 (rx.mono p3 t3) ry ((rz.mono p2 t2).mono p3 t3) q3
 exact⟨a,H',e1,e2,q4.nxt R4 sl4⟩
end
def Bp (n:Nat) (ws:List W):De:=ws.map some ++ List.replicate (n - ws.length) none
def Df (k n:Nat) (b:MS):List W->M W:=fun ws S=>if ws.length=k then match b (Bp n ws) S with
 |.nx _ S1=>.ok .non S1
 |.rt w S1=>.ok w S1
 |.ex c _ S1=>.exc c S1
 |_=>.bad else .bad
section
variable {Θ:Th} {P:Program} {w:World} {K:PySem.W.Frag} {mg:Str->Option Value} {base:Heap}
theorem Ajx {ρ:List Addr} {H:Hp} {ws:List W} {vs:List V} {N:List Str} (r:RVs Θ ρ H ws vs):RSs Θ ρ H (Bp N.length ws) (L2.start N vs):=by
 have hl:=r.length
 refine⟨by simp only[Bp,L2.start,List.length_append,List.length_map,List.length_replicate,hl],fun i u e=>?_⟩
 have hi:i < ws.length:=by
  by_cases hi:i < ws.length
  .exact hi
  .unfold Bp at e
   rw[List.getElem?_append_right (by rw[List.length_map];omega),List.getElem?_replicate] at e
   split at e <;> cases e
 unfold Bp at e
 rw[List.getElem?_append_left (by rw[List.length_map];exact hi),List.getElem?_map] at e
 obtain⟨u',e1,e2⟩:=Option.map_eq_some_iff.mp e
 cases e2
 obtain⟨v,ev,rv⟩:=r.get e1
 refine⟨v,?_,rv⟩
 unfold L2.start
 rw[List.getElem?_append_left (by rw[List.length_map,←hl];exact hi),List.getElem?_map,ev]
 rfl
theorem Bae {cm:Bool} {x qual:Str} {st:Stmt} {f:Addr} {fd:FuncData} {N ps:List Str} {k:Nat} {b:MS} (F:Fun K x qual st f fd) (Sc:Bg N ps (Ad st))
  (hbody:∀(cdv:Value) (A:Around) (outer:List Env) (s:Shared) (H:Hp) (E:XK),Ht k (A.deeper (envOfC qual (Ad st) s.heap.objs.size f cdv)) cm->
   WSs (P0 (CXo P w) P w K mg base N qual (Ad st) f cdv A outer s H E cm) (An st) (tS Θ (fun _=>E) b)):Ib P w K mg base (CXo P w) (k+1) f fd ps (spF Θ (Df ps.length N.length b)) cm:=by
 refine Fun.okW F Sc (fun vs H Q E h=>?_) fun cdv A outer s H vs Q E rm h=>⟨_,hbody cdv A outer s H E rm,?_⟩
 .obtain⟨ρ,S,ws,R,r,q⟩:=h
  unfold Df at q
  by_cases hz:ws.length=ps.length
  .exact r.length.symm.trans hz
  .rw[if_neg hz] at q;exact q.elim
 .obtain⟨ρ,S,ws,R,r,q⟩:=h
  unfold Df at q
  by_cases hz:ws.length=ps.length
  .rw[if_pos hz] at q
   refine⟨ρ,S,Bp N.length ws,R,Ajx r,?_⟩
   cases e:b (Bp N.length ws) S with
   |nx δ S1=>rw[e] at q;exact fun ρ1 H1 σ1 p1 t1 R1 _=>q ρ1 H1 .non p1 t1 R1 .non
   |rt u S1=>rw[e] at q;exact fun ρ1 H1 v p1 t1 R1 rv=>q ρ1 H1 v p1 t1 R1 rv
   |ex c δ S1=>rw[e] at q;exact fun ρ1 H1 σ1 p1 t1 R1 _=>q ρ1 H1 p1 t1 R1
   |bk δ S1=>rw[e] at q;exact q.elim
   |ct δ S1=>rw[e] at q;exact q.elim
   |bad=>rw[e] at q;exact q.elim
  .rw[if_neg hz] at q;exact q.elim
end
def J3 (op op':CmpOp) (f g h:De->M W):De->M W:=fun δ=>do
 let x←f δ
 let y←g δ
 let z←Hw op x y
 asB z fun b=>if b then do let u←h δ;Hw op' y u else pure (.bl false)
section
variable {Θ:Th} {X:Cx} {a b c e tg:Expr} {pos:Pos} {E:L2.St->XK} {f g h:De->M W} {s:Tg} {t:TG}
theorem Zk {op op':CmpOp} (o:Awh Θ X op) (o':Awh Θ X op'):∀σ H Q,tF Θ E (J3 op op' f g h) σ H Q->V8 o.r o'.r (tF Θ E f) (tF Θ E g) (tF Θ E h) σ H Q:=by
 rintro σ H Q ⟨ρ,S,δ,R,sl,q⟩
 refine⟨ρ,S,δ,R,sl,(Ax.seq (Rel:=RV Θ) q).mono ?_⟩
 rintro vx H1 ⟨ρ1,S1,x,p1,t1,R1,rx,q1⟩
 refine⟨ρ1,S1,δ,R1,sl.mono p1 t1,(Ax.seq (Rel:=RV Θ) q1).mono ?_⟩
 rintro vy H2 ⟨ρ2,S2,y,p2,t2,R2,ry,q2⟩
 have q3:=Ax.seq (Rel:=RV Θ) q2
 refine o.by_ ρ2 S2 H2 x y vx vy _ (E σ) R2 (rx.mono p2 t2) ry (q3.mono ?_)
 rintro vz H3 ⟨ρ3,S3,z,p3,t3,R3,rz,q4⟩
 obtain⟨k,rfl,q5⟩:=Wq rz q4
 refine⟨k,rfl,?_⟩
 cases k with
 |false=>exact L2.Ac0 (q5.now R3 (.bl _))
 |true=>
  refine L2.Aau ⟨ρ3,S3,δ,R3,((sl.mono p1 t1).mono p2 t2).mono p3 t3,(Ax.seq (Rel:=RV Θ) q5).mono ?_⟩
  rintro vu H4 ⟨ρ4,S4,u,p4,t4,R4,ru,q6⟩
  exact o'.by_ ρ4 S4 H4 y u vy vu Q (E σ) R4 ((ry.mono p3 t3).mono p4 t4) ru q6
theorem Art {op op':CmpOp} (hK:X.K=Θ.K) (hu:X.A.units+64 < cLine) (ha:WE X a (tF Θ E f)) (hb:WE X b (tF Θ E g)) (hc:WE X c (tF Θ E h)) (hm:lastMarks [op,op'] [b,c]=false) :
  WE X (.Compare a [op,op'] [b,c] pos) (tF Θ E (J3 op op' f g h)):=by
 obtain⟨o⟩:=Aju Θ X hK hu op
 obtain⟨o'⟩:=Aju Θ X hK hu op'
 exact WE.weak (Av0 o.ok o'.ok ha hb hc hm) (Zk o o')
theorem Amw {op op':CmpOp} (hK:X.K=Θ.K) (hu:X.A.units+64 < cLine) (ha:WE X a (tF Θ E f)) (hb:WE X b (tF Θ E g)) (hc:WE X c (tF Θ E h)) (hm:lastMarks [op,op'] [b,c]=false) :
  WT X (.Compare a [op,op'] [b,c] pos) (tFb Θ E (Az (J3 op op' f g h))):=by
 obtain⟨o⟩:=Aju Θ X hK hu op
 obtain⟨o'⟩:=Aju Θ X hK hu op'
 exact Afw (Zk o o') (Av3 o.ok o'.ok ha hb hc hm)
end
def Baf:Operator->Option (Int->Int->Int)
 |.Add=>some fun i j=>i+j
 |.Sub=>some fun i j=>i - j
 |_=>none
def Bcv (op:Int->Int->Int) (i:Nat) (f:De->M W):MS:=fun δ=>match δ[i]? with
 |some (some (.int x))=>El (f δ) (fun w δ S=>match w with
  |.int y=>.nx (δ.set i (some (.int (op x y)))) S
  |_=>.bad) δ
 |_=>fun _=>.bad
def noX {α:Type} (m:M α):M α:=fun S=>match m S with
 |.ok a S1=>.ok a S1
 |_=>.bad
abbrev E0s:L2.St->XK:=fun _ _ _ _=>False
def Li (k:Nat) (cap:List Nat) (δ:De):De:=List.replicate k none ++ cap.map fun j=>δ.getD j none
def Hr (s:Tg) (t:De->M Bool) (e:De->M W):List W->De->List W->M (List W)
 |[],_,acc=>pure acc
 |w::ws,δ,acc=>match s w δ with
  |none=>bad
  |some δ1=>do
   let b←noX (t δ1)
   if b then do
    let y←noX (e δ1)
    if acc.length < big then Hr s t e ws δ1 (acc ++ [y]) else bad
   else Hr s t e ws δ1 acc
section
variable {Θ:Th} {ρ ρ0:List Addr} {S:Store} {H H1:Hp} {Q:VK} {E:XK}
theorem Oz {α β γ:Type} (m:M α) (f:α->M β) (k:β->M γ) (S:Store):((m >>= f) >>= k) S=(m >>= fun a=>f a >>= k) S:=by
 show M.bind (M.bind m f) k S=M.bind m (fun a=>M.bind (f a) k) S
 unfold M.bind
 cases m S <;> rfl
theorem Ax.seqB {α β γ δ':Type} {Rel:List Addr->Hp->α->β->Prop} {Rel2:List Addr->Hp->γ->δ'->Prop} {m:M α} {f:α->M γ} {Q:δ'->Hp->Prop} (h:Ax Θ Rel2 ρ0 H1 ((noX m >>= f) S) Q E) (F:XK) :
  Ax Θ Rel ρ H (m S) (fun v H2=>∃ρ2 S2 w,ρ <+: ρ2∧Cu ρ ρ2 H H2∧Rep Θ ρ2 S2 H2∧Rel ρ2 H2 w v∧Ax Θ Rel2 ρ0 H1 (f w S2) Q E) F:=by
 have h:Ax Θ Rel2 ρ0 H1 (M.bind (noX m) f S) Q E:=h
 unfold M.bind noX at h
 cases e:m S with
 |bad=>rw[e] at h;exact h
 |exc c S1=>rw[e] at h;exact(show False from h).elim
 |ok w S1=>
  rw[e] at h
  exact fun ρ1 H1 v p t r rw'=>⟨ρ1,S1,w,p,t,r,rw',h⟩
end
def Adj:HO->Bool
 |.lst _=>true
 |.dK _=>true
 |_=>false
mutual
theorem RV.grow {Θ:Th} {ρ ρ':List Addr} {H:Hp} (p:ρ <+: ρ') (n:∀b,b∈ρ'->b∈ρ∨∃o,H b=some o∧Adj o=true):∀{w:W} {v:V},RV Θ ρ H w v->RV Θ ρ' H w v
 |_,_,.non=>.non
 |_,_,.bl b=>.bl b
 |_,_,.int i=>.int i
 |_,_,.str x=>.str x
 |_,_,.tup h r=>.tup h (RVs.grow p n r)
 |_,_,.scr h=>.scr h
 |_,_,.ty n=>.ty n
 |_,_,.cls c=>.cls c
 |_,_,.exn x m h=>.exn x (fun z=>by
  rcases n _ z with q|⟨o,q,mu⟩
  .exact m q
  .rw[h] at q;cases q;cases mu) h
 |_,_,.exf x m m' h h' r=>.exf x (fun z=>by
  rcases n _ z with q|⟨o,q,mu⟩
  .exact m q
  .rw[h] at q;cases q;cases mu) (fun z=>by
  rcases n _ z with q|⟨o,q,mu⟩
  .exact m' q
  .rw[h'] at q;cases q;cases mu) h h' (RV.grow p n r)
 |_,_,.ref h=>.ref (by
  obtain⟨r,rfl⟩:=p
  obtain⟨hl,e⟩:=List.getElem?_eq_some_iff.mp h
  rw[List.getElem?_append_left hl]
  exact h)
theorem RVs.grow {Θ:Th} {ρ ρ':List Addr} {H:Hp} (p:ρ <+: ρ') (n:∀b,b∈ρ'->b∈ρ∨∃o,H b=some o∧Adj o=true):∀{ws:List W} {vs:List V},RVs Θ ρ H ws vs->RVs Θ ρ' H ws vs
 |_,_,.nil=>.nil
 |_,_,.cons h r=>.cons (RV.grow p n h) (RVs.grow p n r)
end
section
variable {Θ:Th} {ρ ρ0:List Addr} {S:Store} {H H1:Hp} {Q:VK} {E:XK}
theorem Ld.grow {ρ':List Addr} {a:Addr} {c:Cell} (p:ρ <+: ρ') (n:∀b,b∈ρ'->b∈ρ∨∃o,H b=some o∧Adj o=true) (h:Ld Θ ρ H a c):Ld Θ ρ' H a c:=by
 cases c with
 |lst ws=>obtain⟨vs,h,r⟩:=h;exact⟨vs,h,r.grow p n⟩
 |dct ws=>obtain⟨vs,h,r⟩:=h;exact⟨vs,h,Paired.imp2 (fun _ _ z=>⟨z.1,z.2.grow p n⟩) r⟩
 |ins c ws=>obtain⟨dx,vs,h,r⟩:=h;exact⟨dx,vs,h,Paired.imp2 (fun _ _ z=>⟨z.1,z.2.grow p n⟩) r⟩
theorem Rep.take {D:Addr} {acc:List W} {vs:List V} (R:Rep Θ ρ S H) (hD:D∉ρ) (h:H D=some (.lst vs)) (r:RVs Θ ρ H acc vs):Rep Θ (ρ ++ [D]) (S ++ [.lst acc]) H where
 len:=by rw[List.length_append,List.length_append,R.len];rfl
 nd:=by
  rw[List.nodup_append]
  refine⟨R.nd,by simp,fun a ha b hb=>?_⟩
  obtain rfl:b=D:=by simpa using hb
  rintro rfl
  exact hD ha
 at_:=fun n a d e1 e2=>by
  by_cases hn:n < ρ.length
  .rw[List.getElem?_append_left hn] at e1
   rw[List.getElem?_append_left (by rw[←R.len];exact hn)] at e2
   exact(R.at_ n a d e1 e2).grow (List.prefix_append _ _) (fun b hb=>by
    rcases List.mem_append.mp hb with z|z
    .exact .inl z
    .obtain rfl:=List.mem_singleton.mp z
     exact .inr ⟨_,h,rfl⟩)
  .have hl:=(List.getElem?_eq_some_iff.mp e1).1
   rw[List.length_append,List.length_singleton] at hl
   obtain rfl:n=ρ.length:=by omega
   rw[List.getElem?_append_right (Nat.le_refl _),Nat.sub_self] at e1
   rw[R.len,List.getElem?_append_right (Nat.le_refl _),Nat.sub_self] at e2
   obtain rfl:D=a:=by simpa using e1
   obtain rfl:Cell.lst acc=d:=by simpa using e2
   exact⟨vs,h,r.grow (List.prefix_append _ _) (fun b hb=>by
    rcases List.mem_append.mp hb with z|z
    .exact .inl z
    .obtain rfl:=List.mem_singleton.mp z
     exact .inr ⟨_,h,rfl⟩)⟩
theorem Aru {δ:De} {σ:L2.St} (own:List Str) (cap:List Nat) (h:RSl Θ ρ H δ σ):RSs Θ ρ H (Li own.length cap δ) (Alw own cap σ):=by
 refine⟨by simp[Li,Alw],fun i w e=>?_⟩
 unfold Li at e
 unfold Alw
 by_cases hi:i < own.length
 .rw[List.getElem?_append_left (by rw[List.length_replicate];exact hi),List.getElem?_replicate] at e
  split at e <;> cases e
 .rw[List.getElem?_append_right (by rw[List.length_replicate];omega),List.length_replicate,List.getElem?_map] at e
  rw[List.getElem?_append_right (by rw[List.length_replicate];omega),List.length_replicate,List.getElem?_map]
  obtain⟨j,e1,e2⟩:=Option.map_eq_some_iff.mp e
  rw[e1]
  rw[List.getD_eq_getElem?_getD] at e2
  cases ej:δ[j]? with
  |none=>rw[ej] at e2;cases e2
  |some o=>
   rw[ej] at e2
   have e2:o=some w:=e2
   subst e2
   obtain⟨v,h1,h2⟩:=h j w ej
   exact⟨v,by rw[Option.map_some,List.getD_eq_getElem?_getD,h1];rfl,h2⟩
end
mutual
theorem RV.keep {Θ:Th} {ρ:List Addr} {H H':Hp} (t:∀b o,H b=some o->Adj o=false->H' b=some o):∀{w:W} {v:V},RV Θ ρ H w v->RV Θ ρ H' w v
 |_,_,.non=>.non
 |_,_,.bl b=>.bl b
 |_,_,.int i=>.int i
 |_,_,.str x=>.str x
 |_,_,.tup h r=>.tup (t _ _ h rfl) (RVs.keep t r)
 |_,_,.ty n=>.ty n
 |_,_,.cls c=>.cls c
 |_,_,.exn x m h=>.exn x m (t _ _ h rfl)
 |_,_,.exf x m m' h h' r=>.exf x m m' (t _ _ h rfl) (t _ _ h' rfl) (RV.keep t r)
 |_,_,.scr h=>.scr (by
  rcases h with ⟨o,h⟩|h
  .exact .inl ⟨o,t _ _ h rfl⟩
  .exact .inr h)
 |_,_,.ref h=>.ref h
theorem RVs.keep {Θ:Th} {ρ:List Addr} {H H':Hp} (t:∀b o,H b=some o->Adj o=false->H' b=some o):∀{ws:List W} {vs:List V},RVs Θ ρ H ws vs->RVs Θ ρ H' ws vs
 |_,_,.nil=>.nil
 |_,_,.cons h r=>.cons (RV.keep t h) (RVs.keep t r)
end
section
variable {Θ:Th} {ρ ρ0:List Addr} {S:Store} {H H1:Hp} {Q:VK} {E:XK}
def Lj (H:Hp) (D:Addr):Prop:=H D=none∨∃o,H D=some o∧Adj o=true
theorem Lj.t {D:Addr} {o:HO} (h:Lj H D):∀b xs,H b=some (.tup xs)->upd H D o b=some (.tup xs):=fun b xs q=>by
 rw[Bb (by rintro rfl;rcases h with h|⟨o,h,m⟩ <;> rw[h] at q <;> cases q;cases m)];exact q
theorem Lj.f {D:Addr} {o:HO} (h:Lj H D):∀b ob u,H b=some (.frz ob u)->upd H D o b=some (.frz ob u):=fun b ob u q=>by
 rw[Bb (by rintro rfl;rcases h with h|⟨o,h,m⟩ <;> rw[h] at q <;> cases q;cases m)];exact q
theorem Lj.g {D:Addr} {o':HO} (h:Lj H D):∀b o,H b=some o->Adj o=false->upd H D o' b=some o:=fun b o q n=>by
 rw[Bb (by
  rintro rfl
  rcases h with h|⟨u,h,m⟩ <;> rw[h] at q
  .cases q
  .cases q;rw[n] at m;cases m)];exact q
theorem Rep.off {D:Addr} {o:HO} (R:Rep Θ ρ S H) (hD:D∉ρ) (h:Lj H D):Rep Θ ρ S (upd H D o) where
 len:=R.len
 nd:=R.nd
 at_:=fun n a c e1 e2=>by
  have ne:a≠D:=by
   rintro rfl
   exact hD (List.mem_of_getElem? e1)
  have q:=R.at_ n a c e1 e2
  cases c with
  |lst ws=>obtain⟨vs,h1,r⟩:=q;exact⟨vs,(Bb ne).trans h1,r.keep h.g⟩
  |dct ws=>obtain⟨vs,h1,r⟩:=q;exact⟨vs,(Bb ne).trans h1,Paired.imp2 (fun _ _ z=>⟨z.1,z.2.keep h.g⟩) r⟩
  |ins c ws=>obtain⟨dx,vs,h1,r⟩:=q;exact⟨dx,vs,(Bb ne).trans h1,Paired.imp2 (fun _ _ z=>⟨z.1,z.2.keep h.g⟩) r⟩
theorem RSs.off {D:Addr} {o:HO} {δ:De} {σ:L2.St} (r:RSs Θ ρ H δ σ) (h:Lj H D):RSs Θ ρ (upd H D o) δ σ:=⟨r.1,fun i w e=>by
 obtain⟨v,h1,h2⟩:=r.2 i w e
 exact⟨v,h1,h2.keep h.g⟩⟩
theorem Cu.off {D:Addr} {o:HO} (t:Cu ρ0 ρ H1 H) (h1:H1 D=none) (h:Lj H D):Cu ρ0 ρ H1 (upd H D o) where
 t:=fun b xs q=>h.t b xs (t.t b xs q)
 f:=fun b ob u q=>h.f b ob u (t.f b ob u q)
 k:=fun b ob q m=>by rw[Bb (by rintro rfl;rw[h1] at q;cases q)];exact t.k b ob q m
 n:=t.n
variable {s:Tg} {g:TG} {tf:De->M Bool} {ef:De->M W}
theorem Amx {J:It} {all:List W} {D:Addr} {δ:De} {σ:L2.St} (gk:GOk Θ s g) (jk:JOk Θ J all ρ0 H1) (R:Rep Θ ρ0 S H1) (sl:RSs Θ ρ0 H1 δ σ) (hD:H1 D=none) (q:Ax Θ (RV Θ) ρ0 H1 ((Hr s tf ef all δ [] >>= Bu) S) Q E) :
  Za J g (tFb Θ E0s tf) (tF Θ E0s ef) D σ H1 Q:=by
 have nD:D∉ρ0:=fun z=>by
  obtain⟨o,ho⟩:=R.tracked z
  rw[hD] at ho;cases ho
 refine⟨fun i m acc σ' H'=>∃ρ S δ' ws,i≤all.length∧ρ0 <+: ρ∧Cu ρ0 ρ H1 H'∧D∉ρ∧Rep Θ ρ S H'∧RSs Θ ρ H' δ' σ'∧RVs Θ ρ H' ws acc∧m=(all.drop i).length∧Ax Θ (RV Θ) ρ0 H1 ((Hr s tf ef (all.drop i) δ' ws >>= Bu) S) Q E,
  ⟨_,ρ0,S,δ,[],Nat.zero_le _,List.prefix_refl _,(Cu.refl _ _).off hD (.inl hD),nD,R.off nD (.inl hD),sl.off (.inl hD),.nil,rfl,q⟩,?_⟩
 rintro i m acc σ' H' ⟨ρ,S,δ',ws,li,p,t,mD,R',sl',ra,rfl,q'⟩ hacc
 by_cases hi:i < all.length
 .obtain⟨go,yl⟩:=jk.go ρ H' i p t hi
  refine .inr ⟨go,fun x H'' hy=>?_⟩
  obtain⟨ty,Ry,w,ew,rv⟩:=yl x H'' hy
  have R':=Ry _ R'
  have sl':=sl'.mono (List.prefix_refl _) ty
  have t:=t.trans ty
  have ra:=ra.mono (List.prefix_refl _) ty
  have hacc:=ty.k D _ hacc mD
  have ed:all.drop i=w::all.drop (i+1):=by
   obtain⟨hl,e⟩:=List.getElem?_eq_some_iff.mp ew
   rw[←e]
   exact List.drop_eq_getElem_cons hl
  have hm:(all.drop (i+1)).length < (all.drop i).length:=by rw[List.length_drop,List.length_drop];omega
  rw[ed] at q'
  unfold Hr at q'
  cases es:s w δ' with
  |none=>simp only[es] at q';exact(show False from q').elim
  |some δ2=>
   simp only[es] at q'
   refine gk ρ S H'' w x δ' δ2 σ' _ R' sl' rv es fun σ2 sl2=>⟨ρ,S,δ2,R',sl2.2,?_⟩
   rw[Oz] at q'
   refine(Ax.seqB (Rel:=fun _ _ a b=>a=b) (ρ:=ρ) (H:=H'') q' _).mono ?_
   rintro b H3 ⟨ρ3,S3,b',p3,t3,R3,e3,q3⟩
   have e3:b'=b:=e3
   subst e3
   have out:∀{ρa ρb:List Addr} {Ha Hb:Hp},D∉ρa->Ha D=some (.lst acc)->Cu ρa ρb Ha Hb->D∉ρb∧Hb D=some (.lst acc):=fun {ρa ρb Ha Hb} m1 m2 m3=>by
    refine⟨fun z=>?_,m3.k D _ m2 m1⟩
    rcases m3.n D z with z|z
    .exact m1 z
    .rw[m2] at z;cases z
   obtain⟨mD3,hD3⟩:=out mD hacc t3
   cases b' with
   |false=>
    rw[if_neg Bool.false_ne_true] at q3 ⊢
    exact⟨hD3,_,hm,ρ3,S3,δ2,ws,hi,p.trans p3,t.trans t3,mD3,R3,sl2.mono p3 t3,ra.mono p3 t3,rfl,q3⟩
   |true=>
    rw[if_pos rfl] at q3 ⊢
    rw[Oz] at q3
    refine⟨ρ3,S3,δ2,R3,(sl2.mono p3 t3).2,(Ax.seqB (Rel:=RV Θ) (ρ:=ρ3) (H:=H3) q3 _).mono ?_⟩
    rintro y H4 ⟨ρ4,S4,yw,p4,t4,R4,ry,q4⟩
    obtain⟨mD4,hD4⟩:=out mD3 hD3 t4
    by_cases hz:ws.length < big
    .rw[if_pos hz] at q4
     have fl:Lj H4 D:=.inr ⟨_,hD4,rfl⟩
     have ra4:=(ra.mono p3 t3).mono p4 t4
     refine⟨hD4,by rw[←ra.length];exact Nat.lt_of_lt_of_le hz (by decide),_,hm,ρ4,S4,δ2,ws ++ [yw],hi,(p.trans p3).trans p4,((t.trans t3).trans t4).off hD fl,mD4,R4.off mD4 fl,((sl2.mono p3 t3).mono p4 t4).off fl,?_,rfl,q4⟩
     exact(ra4.append (.cons ry .nil)).keep fl.g
    .rw[if_neg hz] at q4
     exact(show False from q4).elim
 .rw[List.drop_eq_nil_of_le (by omega)] at q'
  refine .inl ⟨jk.stop ρ H' i t (by omega),?_⟩
  have q2:Ax Θ (RV Θ) ρ0 H1 (Bu ws S) Q E:=q'
  simp only[Bu] at q2
  split at q2
  .refine q2 (ρ ++ [D]) H' (.ref D) (p.trans (List.prefix_append _ _)) ⟨t.t,t.f,t.k,fun b hb=>?_⟩ (R'.take mD hacc ra) (.ref ?_)
   .rcases List.mem_append.mp hb with z|z
    .exact t.n b z
    .obtain rfl:b=D:=by simpa using z
     exact .inr hD
   .rw[←R'.len];exact Jm
  .exact(show False from q2).elim
end
def Fz (s:Tg) (t:De->M Bool) (e:De->M W) (n:Nat):Nat->Nat->De->List W->M (List W)
 |0,_,_,_=>bad
 |m+1,i,δ,acc=>fun S=>match S[n]? with
  |some (.lst ws)=>match ws[i]? with
   |none=>.ok acc S
   |some w=>match s w δ with
    |none=>.bad
    |some δ1=>(noX (t δ1) >>= fun b=>if b=true then noX (e δ1) >>= fun y=>if acc.length < big then Fz s t e n m (i+1) δ1 (acc ++ [y]) else bad else Fz s t e n m (i+1) δ1 acc) S
  |_=>.bad
def Jk (s:Tg) (t:De->M Bool) (e:De->M W) (gt:Store->Nat->Option (Option W)):Nat->Nat->De->List W->M (List W)
 |0,_,_,_=>bad
 |m+1,i,δ,acc=>fun S=>match gt S i with
  |none=>.bad
  |some none=>.ok acc S
  |some (some w)=>match s w δ with
   |none=>.bad
   |some δ1=>(noX (t δ1) >>= fun b=>if b=true then noX (e δ1) >>= fun y=>if acc.length < big then Jk s t e gt m (i+1) δ1 (acc ++ [y]) else bad else Jk s t e gt m (i+1) δ1 acc) S
def zlG (n m:Nat):Store->Nat->Option (Option W):=fun S i=>match S[n]?,S[m]? with
 |some (.lst ws),some (.lst us)=>match ws[i]?,us[i]? with
  |some w,some u=>some (some (.tup [w,u]))
  |_,_=>some none
 |_,_=>none
def Cy (k:Nat) (cap:List Nat) (src:De->M Src) (s:Tg) (t:De->M Bool) (e:De->M W):De->M W:=fun δ=>do
 let z←src δ
 match z with
 |.fix ws=>Hr s t e ws (Li k cap δ) [] >>= Bu
 |.liv n=>fun S=>match S[n]? with
  |some (.lst ws)=>(Fz s t e n (ws.length+1) 0 (Li k cap δ) [] >>= Bu) S
  |_=>.bad
 |.zl n m=>fun S=>match S[n]? with
  |some (.lst ws)=>(Jk s t e (zlG n m) (ws.length+1) 0 (Li k cap δ) [] >>= Bu) S
  |_=>.bad
section
variable {Θ:Th} {ρ ρ0:List Addr} {S:Store} {H H1:Hp} {Q:VK} {E:XK} {s:Tg} {g:TG} {tf:De->M Bool} {ef:De->M W}
def after {α β:Type} (f:α->M β):R α->R β
 |.ok a S1=>f a S1
 |.exc c S1=>.exc c S1
 |.bad=>.bad
theorem G9 {α β:Type} {m:M α} {f:α->M β} {r:R α} {S:Store} (e:m S=r):(m >>= f) S=after f r:=by
 show M.bind m f S=_
 unfold M.bind after
 rw[e]
 all_goals (cases r <;> rfl)
theorem Amy {K:PySem.W.Frag} {n f:Nat} {a D:Addr} {δ:De} {σ:L2.St} (gk:GOk Θ s g) (hn:ρ0[n]?=some a) (R:Rep Θ ρ0 S H1) (sl:RSs Θ ρ0 H1 δ σ) (hD:H1 D=none) (q:Ax Θ (RV Θ) ρ0 H1 ((Fz s tf ef n f 0 δ [] >>= Bu) S) Q E) :
  Za (Itl K a) g (tFb Θ E0s tf) (tF Θ E0s ef) D σ H1 Q:=by
 have nD:D∉ρ0:=fun z=>by
  obtain⟨o,ho⟩:=R.tracked z
  rw[hD] at ho;cases ho
 refine⟨fun i m acc σ' H'=>∃ρ S δ' ws,ρ0 <+: ρ∧Cu ρ0 ρ H1 H'∧D∉ρ∧Rep Θ ρ S H'∧RSs Θ ρ H' δ' σ'∧RVs Θ ρ H' ws acc∧Ax Θ (RV Θ) ρ0 H1 ((Fz s tf ef n m i δ' ws >>= Bu) S) Q E,
  ⟨f,ρ0,S,δ,[],List.prefix_refl _,(Cu.refl _ _).off hD (.inl hD),nD,R.off nD (.inl hD),sl.off (.inl hD),.nil,q⟩,?_⟩
 rintro i m acc σ' H' ⟨ρ,S,δ',ws,p,t,mD,R',sl',ra,q'⟩ hacc
 have hn1:ρ[n]?=some a:=by
  obtain⟨r,rfl⟩:=p
  rw[List.getElem?_append_left (List.getElem?_eq_some_iff.mp hn).1]
  exact hn
 cases m with
 |zero=>exact(show False from q').elim
 |succ m=>
  cases ec:S[n]? with
  |none=>rw[G9 (r:=.bad) (by unfold Fz;simp only[ec])] at q';exact(show False from q').elim
  |some c=>
   obtain⟨a',ha',qc⟩:=R'.get ec
   rw[hn1] at ha';cases ha'
   cases c with
   |dct _=>rw[G9 (r:=.bad) (by unfold Fz;simp only[ec])] at q';exact(show False from q').elim
   |ins _ _=>rw[G9 (r:=.bad) (by unfold Fz;simp only[ec])] at q';exact(show False from q').elim
   |lst us=>
    obtain⟨vs,h1,r1⟩:=qc
    cases ew:us[i]? with
    |none=>
     rw[G9 (r:=.ok ws S) (by unfold Fz;simp only[ec,ew])] at q'
     refine .inl ⟨⟨vs,.inl (.inl h1),by rw[←r1.length];exact List.getElem?_eq_none_iff.mp ew⟩,?_⟩
     have q2:Ax Θ (RV Θ) ρ0 H1 (Bu ws S) Q E:=q'
     simp only[Bu] at q2
     split at q2
     .refine q2 (ρ ++ [D]) H' (.ref D) (p.trans (List.prefix_append _ _)) ⟨t.t,t.f,t.k,fun b hb=>?_⟩ (R'.take mD hacc ra) (.ref ?_)
      .rcases List.mem_append.mp hb with z|z
       .exact t.n b z
       .obtain rfl:b=D:=by simpa using z
        exact .inr hD
      .rw[←R'.len];exact Jm
     .exact(show False from q2).elim
    |some w=>
     obtain⟨v,ev,rv⟩:=r1.get ew
     refine .inr ⟨⟨vs,v,.inl (.inl h1),ev⟩,?_⟩
     rintro x H'' ⟨rfl,hx⟩
     have e2:=hx vs (.inl (.inl h1))
     rw[ev] at e2
     cases e2
     cases es:s w δ' with
     |none=>rw[G9 (r:=.bad) (by unfold Fz;simp only[ec,ew,es])] at q';exact(show False from q').elim
     |some δ2=>
      have q':Ax Θ (RV Θ) ρ0 H1 (((noX (tf δ2) >>= fun b=>if b=true then noX (ef δ2) >>= fun y=>if ws.length < big then Fz s tf ef n m (i+1) δ2 (ws ++ [y]) else bad else Fz s tf ef n m (i+1) δ2 ws) >>= Bu) S) Q E:=by
       have e3:Fz s tf ef n (m+1) i δ' ws S=(noX (tf δ2) >>= fun b=>if b=true then noX (ef δ2) >>= fun y=>if ws.length < big then Fz s tf ef n m (i+1) δ2 (ws ++ [y]) else bad else Fz s tf ef n m (i+1) δ2 ws) S:=by
        conv=>lhs;unfold Fz
        simp only[ec,ew,es]
       rw[G9 e3] at q'
       rw[G9 rfl]
       exact q'
      refine gk ρ S H'' w v δ' δ2 σ' _ R' sl' rv es fun σ2 sl2=>⟨ρ,S,δ2,R',sl2.2,?_⟩
      rw[Oz] at q'
      refine(Ax.seqB (Rel:=fun _ _ a b=>a=b) (ρ:=ρ) (H:=H'') q' _).mono ?_
      rintro b H3 ⟨ρ3,S3,b',p3,t3,R3,e3,q3⟩
      have e3:b'=b:=e3
      subst e3
      have out:∀{ρa ρb:List Addr} {Ha Hb:Hp},D∉ρa->Ha D=some (.lst acc)->Cu ρa ρb Ha Hb->D∉ρb∧Hb D=some (.lst acc):=fun {ρa ρb Ha Hb} m1 m2 m3=>by
       refine⟨fun z=>?_,m3.k D _ m2 m1⟩
       rcases m3.n D z with z|z
       .exact m1 z
       .rw[m2] at z;cases z
      obtain⟨mD3,hD3⟩:=out mD hacc t3
      cases b' with
      |false=>
       rw[if_neg Bool.false_ne_true] at q3 ⊢
       exact⟨hD3,m,Nat.lt_succ_self m,ρ3,S3,δ2,ws,p.trans p3,t.trans t3,mD3,R3,sl2.mono p3 t3,ra.mono p3 t3,q3⟩
      |true=>
       rw[if_pos rfl] at q3 ⊢
       rw[Oz] at q3
       refine⟨ρ3,S3,δ2,R3,(sl2.mono p3 t3).2,(Ax.seqB (Rel:=RV Θ) (ρ:=ρ3) (H:=H3) q3 _).mono ?_⟩
       rintro y H4 ⟨ρ4,S4,yw,p4,t4,R4,ry,q4⟩
       obtain⟨mD4,hD4⟩:=out mD3 hD3 t4
       by_cases hz:ws.length < big
       .rw[if_pos hz] at q4
        have fl:Lj H4 D:=.inr ⟨_,hD4,rfl⟩
        have ra4:=(ra.mono p3 t3).mono p4 t4
        refine⟨hD4,by rw[←ra.length];exact Nat.lt_of_lt_of_le hz (by decide),m,Nat.lt_succ_self m,ρ4,S4,δ2,ws ++ [yw],(p.trans p3).trans p4,((t.trans t3).trans t4).off hD fl,mD4,R4.off mD4 fl,((sl2.mono p3 t3).mono p4 t4).off fl,?_,q4⟩
        exact(ra4.append (.cons ry .nil)).keep fl.g
       .rw[if_neg hz] at q4
        exact(show False from q4).elim
end
section
variable {Θ:Th} {ρ ρ0:List Addr} {S:Store} {H H1:Hp} {Q:VK} {E:XK} {s:Tg} {g:TG} {tf:De->M Bool} {ef:De->M W}
structure JLv (Θ:Th) (J:It) (gt:Store->Nat->Option (Option W)) (ρ0:List Addr):Prop where
 stop:∀ρ S H i,ρ0 <+: ρ->Rep Θ ρ S H->gt S i=some none->J.stop i H
 go:∀ρ S H i w,ρ0 <+: ρ->Rep Θ ρ S H->gt S i=some (some w)->J.go i H∧∀x H',J.yld i H x H'->Cu ρ ρ H H'∧(∀S,Rep Θ ρ S H->Rep Θ ρ S H')∧RV Θ ρ H' w x
theorem Amz {J:It} {gt:Store->Nat->Option (Option W)} {f:Nat} {D:Addr} {δ:De} {σ:L2.St} (gk:GOk Θ s g) (jk:JLv Θ J gt ρ0) (R:Rep Θ ρ0 S H1) (sl:RSs Θ ρ0 H1 δ σ) (hD:H1 D=none) (q:Ax Θ (RV Θ) ρ0 H1 ((Jk s tf ef gt f 0 δ [] >>= Bu) S) Q E) :
  Za J g (tFb Θ E0s tf) (tF Θ E0s ef) D σ H1 Q:=by
 have nD:D∉ρ0:=fun z=>by
  obtain⟨o,ho⟩:=R.tracked z
  rw[hD] at ho;cases ho
 refine⟨fun i m acc σ' H'=>∃ρ S δ' ws,ρ0 <+: ρ∧Cu ρ0 ρ H1 H'∧D∉ρ∧Rep Θ ρ S H'∧RSs Θ ρ H' δ' σ'∧RVs Θ ρ H' ws acc∧Ax Θ (RV Θ) ρ0 H1 ((Jk s tf ef gt m i δ' ws >>= Bu) S) Q E,
  ⟨f,ρ0,S,δ,[],List.prefix_refl _,(Cu.refl _ _).off hD (.inl hD),nD,R.off nD (.inl hD),sl.off (.inl hD),.nil,q⟩,?_⟩
 rintro i m acc σ' H' ⟨ρ,S,δ',ws,p,t,mD,R',sl',ra,q'⟩ hacc
 cases m with
 |zero=>exact(show False from q').elim
 |succ m=>
  cases eg:gt S i with
  |none=>rw[G9 (r:=.bad) (by unfold Jk;simp only[eg])] at q';exact(show False from q').elim
  |some o=>
   cases o with
   |none=>
    rw[G9 (r:=.ok ws S) (by unfold Jk;simp only[eg])] at q'
    refine .inl ⟨jk.stop ρ S H' i p R' eg,?_⟩
    have q2:Ax Θ (RV Θ) ρ0 H1 (Bu ws S) Q E:=q'
    simp only[Bu] at q2
    split at q2
    .refine q2 (ρ ++ [D]) H' (.ref D) (p.trans (List.prefix_append _ _)) ⟨t.t,t.f,t.k,fun b hb=>?_⟩ (R'.take mD hacc ra) (.ref ?_)
     .rcases List.mem_append.mp hb with z|z
      .exact t.n b z
      .obtain rfl:b=D:=by simpa using z
       exact .inr hD
     .rw[←R'.len];exact Jm
    .exact(show False from q2).elim
   |some w=>
    obtain⟨go,yl⟩:=jk.go ρ S H' i w p R' eg
    refine .inr ⟨go,fun x H'' hy=>?_⟩
    obtain⟨ty,Ry,rv⟩:=yl x H'' hy
    have R':=Ry _ R'
    have sl':=sl'.mono (List.prefix_refl _) ty
    have t:=t.trans ty
    have ra:=ra.mono (List.prefix_refl _) ty
    have hacc:=ty.k D _ hacc mD
    cases es:s w δ' with
    |none=>rw[G9 (r:=.bad) (by unfold Jk;simp only[eg,es])] at q';exact(show False from q').elim
    |some δ2=>
     have q':Ax Θ (RV Θ) ρ0 H1 (((noX (tf δ2) >>= fun b=>if b=true then noX (ef δ2) >>= fun y=>if ws.length < big then Jk s tf ef gt m (i+1) δ2 (ws ++ [y]) else bad else Jk s tf ef gt m (i+1) δ2 ws) >>= Bu) S) Q E:=by
      have e3:Jk s tf ef gt (m+1) i δ' ws S=(noX (tf δ2) >>= fun b=>if b=true then noX (ef δ2) >>= fun y=>if ws.length < big then Jk s tf ef gt m (i+1) δ2 (ws ++ [y]) else bad else Jk s tf ef gt m (i+1) δ2 ws) S:=by
       conv=>lhs;unfold Jk
       simp only[eg,es]
      rw[G9 e3] at q'
      rw[G9 rfl]
      exact q'
     refine gk ρ S H'' w x δ' δ2 σ' _ R' sl' rv es fun σ2 sl2=>⟨ρ,S,δ2,R',sl2.2,?_⟩
     rw[Oz] at q'
     refine(Ax.seqB (Rel:=fun _ _ a b=>a=b) (ρ:=ρ) (H:=H'') q' _).mono ?_
     rintro b H3 ⟨ρ3,S3,b',p3,t3,R3,e3,q3⟩
     have e3:b'=b:=e3
     subst e3
     have out:∀{ρa ρb:List Addr} {Ha Hb:Hp},D∉ρa->Ha D=some (.lst acc)->Cu ρa ρb Ha Hb->D∉ρb∧Hb D=some (.lst acc):=fun {ρa ρb Ha Hb} m1 m2 m3=>⟨m3.out m2 m1,m3.k D _ m2 m1⟩
     obtain⟨mD3,hD3⟩:=out mD hacc t3
     cases b' with
     |false=>
      rw[if_neg Bool.false_ne_true] at q3 ⊢
      exact⟨hD3,m,Nat.lt_succ_self m,ρ3,S3,δ2,ws,p.trans p3,t.trans t3,mD3,R3,sl2.mono p3 t3,ra.mono p3 t3,q3⟩
     |true=>
      rw[if_pos rfl] at q3 ⊢
      rw[Oz] at q3
      refine⟨ρ3,S3,δ2,R3,(sl2.mono p3 t3).2,(Ax.seqB (Rel:=RV Θ) (ρ:=ρ3) (H:=H3) q3 _).mono ?_⟩
      rintro y H4 ⟨ρ4,S4,yw,p4,t4,R4,ry,q4⟩
      obtain⟨mD4,hD4⟩:=out mD3 hD3 t4
      by_cases hz:ws.length < big
      .rw[if_pos hz] at q4
       have fl:Lj H4 D:=.inr ⟨_,hD4,rfl⟩
       have ra4:=(ra.mono p3 t3).mono p4 t4
       refine⟨hD4,by rw[←ra.length];exact Nat.lt_of_lt_of_le hz (by decide),m,Nat.lt_succ_self m,ρ4,S4,δ2,ws ++ [yw],(p.trans p3).trans p4,((t.trans t3).trans t4).off hD fl,mD4,R4.off mD4 fl,((sl2.mono p3 t3).mono p4 t4).off fl,?_,q4⟩
       exact(ra4.append (.cons ry .nil)).keep fl.g
      .rw[if_neg hz] at q4
       exact(show False from q4).elim
theorem Awu {n m:Nat} {a b:Addr} (hn:ρ0[n]?=some a) (hm:ρ0[m]?=some b):JLv Θ (Itz Θ.K false a b) (zlG n m) ρ0:=by
 have up:∀{ρ:List Addr} {k:Nat} {c:Addr},ρ0 <+: ρ->ρ0[k]?=some c->ρ[k]?=some c:=fun {ρ k c} p h=>by
  obtain⟨r,rfl⟩:=p
  rw[List.getElem?_append_left (List.getElem?_eq_some_iff.mp h).1]
  exact h
 have open_:∀{ρ:List Addr} {S:Store} {H:Hp} {i:Nat} {o:Option W},ρ0 <+: ρ->Rep Θ ρ S H->zlG n m S i=some o->∃ws us vs zs,S[n]?=some (.lst ws)∧S[m]?=some (.lst us)∧H a=some (.lst vs)∧H b=some (.lst zs)∧RVs Θ ρ H ws vs∧RVs Θ ρ H us zs∧
   (match ws[i]?,us[i]? with|some w,some u=>some (some (W.tup [w,u]))|_,_=>some none)=some o:=fun {ρ S H i o} p R e=>by
  unfold zlG at e
  cases e1:S[n]? with
  |none=>rw[e1] at e;cases e
  |some c1=>
   cases e2:S[m]? with
   |none=>rw[e1,e2] at e;cases c1 <;> cases e
   |some c2=>
    rw[e1,e2] at e
    cases c1 <;> cases c2 <;> first|cases e;done|skip
    rename_i ws us
    obtain⟨a',ha',vs,h1,r1⟩:=R.get e1
    obtain⟨b',hb',zs,h2,r2⟩:=R.get e2
    rw[up p hn] at ha';cases ha'
    rw[up p hm] at hb';cases hb'
    exact⟨ws,us,vs,zs,rfl,rfl,h1,h2,r1,r2,e⟩
 refine⟨fun ρ S H i p R e=>?_,fun ρ S H i w p R e=>?_⟩
 .obtain⟨ws,us,vs,zs,_,_,h1,h2,r1,r2,e⟩:=open_ p R e
  refine⟨vs,zs,.inl (.inl h1),.inl (.inl h2),?_⟩
  rw[←r1.length,←r2.length]
  cases q1:ws[i]? with
  |none=>exact .inl (List.getElem?_eq_none_iff.mp q1)
  |some x=>
   cases q2:us[i]? with
   |none=>exact .inr (List.getElem?_eq_none_iff.mp q2)
   |some y=>rw[q1,q2] at e;cases e
 .obtain⟨ws,us,vs,zs,_,_,h1,h2,r1,r2,e⟩:=open_ p R e
  cases q1:ws[i]? with
  |none=>rw[q1] at e;cases e
  |some x=>
   cases q2:us[i]? with
   |none=>rw[q1,q2] at e;cases e
   |some y=>
    rw[q1,q2] at e
    cases e
    obtain⟨vx,g1,rx⟩:=r1.get q1
    obtain⟨vy,g2,ry⟩:=r2.get q2
    refine⟨⟨vs,zs,vx,vy,.inl (.inl h1),.inl (.inl h2),g1,g2⟩,?_⟩
    rintro v H' ⟨pp,x',y',f1,f2,hp,rfl,rfl⟩
    have z1:=f1 vs (.inl (.inl h1))
    have z2:=f2 zs (.inl (.inl h2))
    rw[g1] at z1;cases z1
    rw[g2] at z2;cases z2
    exact⟨Ce hp,fun S r=>r.beside hp,.tup Bo (.cons (rx.mono (List.prefix_refl _) (Ce hp)) (.cons (ry.mono (List.prefix_refl _) (Ce hp)) .nil))⟩
end
section
variable {Θ:Th} {X:Cx} {E:L2.St->XK} {elt iter tg:Expr} {ifs:List Expr} {scope:Scope} {pos:Pos} {src:De->M Src} {s:Tg} {g:TG} {tf:De->M Bool} {ef:De->M W} {own:List Str} {cap:List Nat} {sc:Scope}
theorem Adk {g:TG} (gk:GOk Θ s g):∀σ H Q,tF Θ E (Cy own.length cap src s tf ef) σ H Q->Zb (tFi Θ E src) g (tFb Θ E0s tf) (tF Θ E0s ef) own cap σ H Q:=fun σ H Q ⟨ρ,S,δ,R,sl,q⟩=>by
  refine⟨ρ,S,δ,R,sl,(Ax.seq (Rel:=Su Θ) q).mono ?_⟩
  rintro J H1 ⟨ρ1,S1,z,p1,t1,R1,rj,q1⟩ D hD
  have sl1:=Aru own cap (sl.mono p1 t1)
  cases z with
  |fix ws=>exact Amx gk rj R1 sl1 hD q1
  |liv n=>
   obtain⟨a,hn,rfl⟩:=rj
   simp only at q1
   split at q1
   .exact Amy gk hn R1 sl1 hD q1
   .exact(show False from q1).elim
  |zl n m=>
   obtain⟨a,b,hn,hm,rfl⟩:=rj
   simp only at q1
   split at q1
   .exact Amz gk (Awu hn hm) R1 sl1 hD q1
   .exact(show False from q1).elim
theorem Awv (hc:X.calm=true) (hE:X.env.scope=sc) (hi:WI X tg iter (tFi Θ E src)) (hg:∀C s H ex,WG (X.comp scope own cap C s H ex) tg g) (gk:GOk Θ s g) (ht:∀C s H ex,WTs (X.comp scope own cap C s H ex) ifs (tFb Θ E0s tf)) (he:∀C s H ex,WE (X.comp scope own cap C s H ex) elt (tF Θ E0s ef))
  (hcap:cap.all (fun j=>match X.N[j]? with|some x=>decide (scope.names.lookup x=some .free)|none=>false)=true) (hkind:scope.kind=.function) (hcell:scope.names.all (fun y=>decide (y.2≠.cell))=true)
  (hnames:scope.names.all (fun y=>!decide (y.2=.local)||decide (scope.names.lookup y.1=some .local))=true)
  (hfree:scope.names.all (fun y=>!decide (y.2=.free)||(decide (sc.names.lookup y.1=some .cell)||decide (sc.names.lookup y.1=some .free)))=true) (hs:∀x,foldedSetIterable iter X.env x=pure x) :
  WE X (.ListComp elt [⟨tg,iter,ifs,0⟩] scope pos) (tF Θ E (Cy own.length cap src s tf ef)):=
 WE.weak (Azm hc hE hi hg ht he hcap hkind hcell hnames hfree hs) (Adk gk)
end
def Abf (kvs:List (Key×W)):M W:=fun S=>.ok (.ref S.length) (S ++ [.dct kvs])
def Jj (kvs more:List (Key×W)):List (Key×W):=more.foldl (fun acc kv=>O8 acc kv.1 kv.2) kvs
def Ku:List ((De->M W)×(De->M W))->De->M (List (Key×W))
 |[]=>fun _=>pure []
 |(f,g)::r=>fun δ=>do
  let k←f δ
  let v←g δ
  let kvs←Ku r δ
  match Wr k with
  |some k=>pure ((k,v)::kvs)
  |none=>bad
def Nk (l:List ((De->M W)×(De->M W))):De->M W:=fun δ=>do let kvs←Ku l δ;Abf (Jj [] kvs)
section
variable {Θ:Th} {ρ ρ2:List Addr} {S:Store} {H H':Hp} {X:Cx} {E:L2.St->XK} {pos:Pos}
theorem Cu.more {p:Addr} (t:Cu ρ ρ2 H H') (h:H p=none):Cu ρ (ρ2 ++ [p]) H H' where
 t:=t.t
 f:=t.f
 k:=t.k
 n:=fun b m=>by
  rcases List.mem_append.mp m with z|z
  .exact t.n b z
  .obtain rfl:=List.mem_singleton.mp z
   exact .inr h
theorem Rep.takeC {D:Addr} {c:Cell} {o:HO} (R:Rep Θ ρ S H) (hD:D∉ρ) (h:H D=some o) (mu:Adj o=true) (q:Ld Θ (ρ ++ [D]) H D c):Rep Θ (ρ ++ [D]) (S ++ [c]) H where
 len:=by rw[List.length_append,List.length_append,R.len];rfl
 nd:=by
  rw[List.nodup_append]
  refine⟨R.nd,by simp,fun a ha b hb=>?_⟩
  obtain rfl:b=D:=by simpa using hb
  rintro rfl
  exact hD ha
 at_:=fun n a d e1 e2=>by
  by_cases hn:n < ρ.length
  .rw[List.getElem?_append_left hn] at e1
   rw[List.getElem?_append_left (by rw[←R.len];exact hn)] at e2
   refine(R.at_ n a d e1 e2).grow (List.prefix_append _ _) (fun b hb=>?_)
   rcases List.mem_append.mp hb with z|z
   .exact .inl z
   .obtain rfl:=List.mem_singleton.mp z
    exact .inr ⟨_,h,mu⟩
  .have hl:=(List.getElem?_eq_some_iff.mp e1).1
   rw[List.length_append,List.length_singleton] at hl
   obtain rfl:n=ρ.length:=by omega
   rw[List.getElem?_append_right (Nat.le_refl _),Nat.sub_self] at e1
   rw[R.len,List.getElem?_append_right (Nat.le_refl _),Nat.sub_self] at e2
   obtain rfl:D=a:=by simpa using e1
   obtain rfl:c=d:=by simpa using e2
   exact q
theorem RKV.merge {more:List (Key×W)} {rs:List (Key×V)} (r:RKV Θ ρ H more rs):∀{kvs:List (Key×W)} {vs:List (Key×V)},RKV Θ ρ H kvs vs->RKV Θ ρ H (Jj kvs more) (J0 vs rs):=by
 unfold RKV at r
 induction r with
 |nil=>intro kvs vs q;exact q
 |@cons p q ps qs h t ih=>
  intro kvs vs r0
  have e:RKV Θ ρ H (O8 kvs p.1 p.2) (putK vs q.1 q.2):=by
   rw[←h.1];exact r0.put p.1 h.2
  exact ih e
def Arv (Θ:Th) (ρ:List Addr) (H:Hp) (kws:List (Key×W)) (ps:List (V×V)):Prop:=∃kvs:List (Key×V),ps=kvs.map (fun kv=>(kV kv.1,kv.2))∧RKV Θ ρ H kws kvs
theorem Wz {σ:L2.St} {δ:De}:∀(l:List ((De->M W)×(De->M W))) {ρ:List Addr} {S:Store} {H:Hp} {Q:List (V×V)->Hp->Prop},Rep Θ ρ S H->RSl Θ ρ H δ σ->Ax Θ (Arv Θ) ρ H (Ku l δ S) Q (E σ)->Aat (l.map fun p=>(tF Θ E p.1,tF Θ E p.2)) σ H Q
 |[],ρ,S,H,Q,R,sl,q=>Ax.now (Rel:=Arv Θ) q R ⟨[],rfl,.nil⟩
 |(f,g)::r,ρ,S,H,Q,R,sl,q=>by
  refine⟨ρ,S,δ,R,sl,(Ax.seq (Rel:=RV Θ) q).mono ?_⟩
  rintro vk H1 ⟨ρ1,S1,k,p1,t1,R1,rk,q1⟩
  refine⟨ρ1,S1,δ,R1,sl.mono p1 t1,(Ax.seq (Rel:=RV Θ) q1).mono ?_⟩
  rintro vv H2 ⟨ρ2,S2,v,p2,t2,R2,rv,q2⟩
  refine Wz r R2 ((sl.mono p1 t1).mono p2 t2) ((Ax.seq (Rel:=Arv Θ) q2).mono ?_)
  rintro ps H3 ⟨ρ3,S3,kws,p3,t3,R3,⟨kvs,rfl,rkv⟩,q3⟩
  cases e:Wr k with
  |none=>rw[e] at q3;exact(show False from q3).elim
  |some kk=>
   rw[e] at q3
   have ek:=Vo rk e
   subst ek
   exact Ax.now (Rel:=Arv Θ) q3 R3 ⟨(kk,vv)::kvs,rfl,.cons ⟨rfl,rv.mono p3 t3⟩ rkv⟩
theorem pairs_len:∀(l:List ((De->M W)×(De->M W))) (δ:De) (S S1:Store) (kws:List (Key×W)),Ku l δ S=.ok kws S1->kws.length=l.length
 |[],δ,S,S1,kws,e=>by cases e;rfl
 |(f,g)::r,δ,S,S1,kws,e=>by
  have e:M.bind (f δ) (fun k=>M.bind (g δ) fun v=>M.bind (Ku r δ) fun kvs=>match Wr k with|some k=>pure ((k,v)::kvs)|none=>bad) S=_:=e
  unfold M.bind at e
  cases e1:f δ S with
  |ok k S2=>
   rw[e1] at e
   simp only at e
   cases e2:g δ S2 with
   |ok v S3=>
    rw[e2] at e
    simp only at e
    cases e3:Ku r δ S3 with
    |ok kvs S4=>
     rw[e3] at e
     simp only at e
     have ih:=pairs_len r δ _ _ _ e3
     cases ek:Wr k with
     |none=>rw[ek] at e;cases e
     |some kk=>rw[ek] at e;cases e;rw[List.length_cons,List.length_cons,ih]
    |exc c S4=>rw[e3] at e;cases e
    |bad=>rw[e3] at e;cases e
   |exc c S4=>rw[e2] at e;cases e
   |bad=>rw[e2] at e;cases e
  |exc c S4=>rw[e1] at e;cases e
  |bad=>rw[e1] at e;cases e
theorem Aww:WE X (.Dict [] [] pos) (tF Θ E (Nk [])):=WE.weak ⟨Alq⟩ fun σ H Q ⟨ρ,S,δ,R,sl,q⟩=>fun p hp=>by
 refine q (ρ ++ [p]) _ _ (List.prefix_append _ _) (Ce hp) (R.alloc (c:=.dct []) hp ⟨_,Bo,.nil⟩) (.ref ?_)
 rw[←R.len]
 exact Jm
theorem Awx {keys:List (Option Expr)} {values:List Expr} {l:List ((De->M W)×(De->M W))} (h:WPs X pos keys values (l.map fun p=>(tF Θ E p.1,tF Θ E p.2))) (hall:keys.all (·.isSome)=true) (hl:keys.length=values.length) (h0:keys≠[]) (h15:keys.length≤15) (hk:l.length=keys.length) :
  WE X (.Dict keys values pos) (tF Θ E (Nk l)):=WE.weak ⟨Apy h.un hall hl h0 h15⟩ fun σ H Q ⟨ρ,S,δ,R,sl,q⟩=>fun p hp=>by
 have pn:p∉ρ:=fun z=>by
  obtain⟨o,ho⟩:=R.tracked z
  rw[hp] at ho;cases ho
 have t0:Cu ρ ρ H (upd H p (.dK [])):=Ce hp
 have q0:Ax Θ (RV Θ) ρ (upd H p (.dK [])) (Nk l δ S) Q (E σ):=Ax.shift q (List.prefix_refl _) t0
 cases e:Ku l δ S with
 |bad=>
  have q:Ax Θ (RV Θ) ρ H (M.bind (Ku l δ) (fun kvs=>Abf (Jj [] kvs)) S) Q (E σ):=q
  unfold M.bind at q
  rw[e] at q
  exact q.elim
 |exc c S1=>
  refine Wz l (R.beside hp) (sl.mono (List.prefix_refl _) t0) ?_
  have q0:Ax Θ (RV Θ) ρ (upd H p (.dK [])) (M.bind (Ku l δ) (fun kvs=>Abf (Jj [] kvs)) S) Q (E σ):=q0
  unfold M.bind at q0
  rw[e] at q0 ⊢
  exact q0
 |ok kws S1=>
  refine Wz l (R.beside hp) (sl.mono (List.prefix_refl _) t0) ?_
  rw[e]
  rintro ρ2 H2 ps p2 t2 R2 ⟨kvs,rfl,rkv⟩
  have hp2:H2 p=some (.dK []):=t2.k p _ Bo pn
  have pn2:p∉ρ2:=t2.out Bo pn
  have fl:Lj H2 p:=.inr ⟨_,hp2,rfl⟩
  have q1:Ax Θ (RV Θ) ρ H (M.bind (Ku l δ) (fun kvs=>Abf (Jj [] kvs)) S) Q (E σ):=q
  unfold M.bind at q1
  rw[e] at q1
  have ln:=pairs_len l δ S S1 kws e
  refine⟨hp2,kvs,rfl,?_,?_⟩
  .rw[←(paired_len rkv:kws.length=kvs.length),ln,hk];exact h15
  .have r3:RKV Θ ρ2 (upd H2 p (.dK (J0 [] kvs))) (Jj [] kws) (J0 [] kvs):=Paired.imp2 (fun _ _ z=>⟨z.1,z.2.keep fl.g⟩) (RKV.merge rkv (kvs:=[]) (vs:=[]) .nil)
   have R3:=R2.off (o:=.dK (J0 [] kvs)) pn2 fl
   have r4:RKV Θ (ρ2 ++ [p]) (upd H2 p (.dK (J0 [] kvs))) (Jj [] kws) (J0 [] kvs):=Paired.imp2 (fun _ _ z=>⟨z.1,z.2.grow (List.prefix_append _ _) (fun b hb=>by
    rcases List.mem_append.mp hb with z|z
    .exact .inl z
    .obtain rfl:=List.mem_singleton.mp z
     exact .inr ⟨_,Bo,rfl⟩)⟩) r3
   have R4:=R3.takeC (c:=.dct (Jj [] kws)) pn2 Bo rfl ⟨_,Bo,r4⟩
   refine q1 (ρ2 ++ [p]) _ _ (p2.trans (List.prefix_append _ _)) (((t0.trans t2).off hp fl).more hp) R4 (.ref ?_)
   rw[←R2.len]
   exact Jm
end
def tyW (S:Store):W->Option String
 |.non=>some "NoneType"
 |.bl _=>some "bool"
 |.int _=>some "int"
 |.str _=>some "str"
 |.tup _=>some "tuple"
 |.ref n=>match S[n]? with
  |some (.lst _)=>some "list"
  |some (.dct _)=>some "dict"
  |_=>none
 |_=>none
def Vp:List String:=["int","bool","str","tuple","list","dict"]
def Am0:List String:=["NoneType","int","bool","str","tuple","list","dict"]
def Bag (T n:String):Bool:=T==n||(T=="bool"&&n=="int")
def Awy (Θ:Th):W->Option Value
 |.ty n=>some (.type n)
 |.cls c=>some (.ref (Θ.cl c))
 |_=>none
structure Adl (Θ:Th) (isa:Nat->W->Option Bool):Prop where
 ok:∀c k b,isa c k=some b->Θ.xf c=none∧Yk Θ.K (Θ.cl c)∧∃cv,Awy Θ k=some cv∧PySem.W.kitOne Θ.K (.ref (Θ.cl c)) cv=some b
def Jq (isa:Nat->W->Option Bool):List W->M W
 |[.exn c _,k]=>match isa c k with
  |some b=>pure (.bl b)
  |none=>bad
 |[x,.ty n]=>fun S=>match tyW S x with
  |some T=>if Vp.contains n then .ok (.bl (Bag T n)) S else .bad
  |none=>.bad
 |_=>bad
theorem Awz (K:PySem.W.Frag) {T n:String} (h1:T∈Am0) (h2:n∈Vp):PySem.W.kitOne K (.type T) (.type n)=some (Bag T n):=by
 simp only[Am0,Vp,List.mem_cons,List.not_mem_nil,or_false] at h1 h2
 rcases h1 with rfl|rfl|rfl|rfl|rfl|rfl|rfl <;> rcases h2 with rfl|rfl|rfl|rfl|rfl|rfl <;> kernel_rfl
section
variable {Θ:Th} {ρ:List Addr} {S:Store} {H:Hp} {ws:List W} {vs:List V} {Q:VK} {E:XK} {x k:W} {vx vk:V}
theorem Aw0 {T:String} (R:Rep Θ ρ S H) (rv:RV Θ ρ H x vx) (h:tyW S x=some T):TyX Θ.K H vx (.type T)∧T∈Am0:=by
 cases rv <;> simp only[tyW,Option.some.injEq,reduceCtorEq] at h <;> try subst h
 .exact⟨.of .non,by decide⟩
 .exact⟨.of (.bl _),by decide⟩
 .exact⟨.of (.int _),by decide⟩
 .exact⟨.of (.str _),by decide⟩
 .rename_i h1 r1;exact⟨.of (.tup h1),by decide⟩
 .rename_i n a hn
  split at h
  .rename_i ws e1
   cases h
   obtain⟨a',ha',zs,h2,r2⟩:=R.get e1
   rw[hn] at ha';cases ha'
   exact⟨.of (.lst h2),by decide⟩
  .rename_i ws e1
   cases h
   obtain⟨a',ha',zs,h2,r2⟩:=R.get e1
   rw[hn] at ha';cases ha'
   exact⟨.of (.dK h2),by decide⟩
  .cases h
theorem Arw {cv:Value} (rk:RV Θ ρ H k vk) (h:Awy Θ k=some cv):Aji vk=some cv:=by
 cases rk <;> simp only[Awy,Option.some.injEq,reduceCtorEq] at h <;> subst h <;> rfl
theorem Bcw {isa:Nat->W->Option Bool} (O:Adl Θ isa) (R:Rep Θ ρ S H) (r:RVs Θ ρ H ws vs) (h:Ax Θ (RV Θ) ρ H (Jq isa ws S) Q E) :
  ∃x c cv t b,vs=[x,c]∧TyX Θ.K H x t∧Aji c=some cv∧PySem.W.kitOne Θ.K t cv=some b∧Q (.bl b) H:=by
 unfold Jq at h
 split at h
 .rename_i c w k
  cases r with|cons rx r=>
  cases r with|cons rk r=>
  cases r
  cases hb:isa c k with
  |none=>simp only[hb] at h;exact(show False from h).elim
  |some b=>
   simp only[hb] at h
   obtain⟨x1,x2,cv,hc,hk⟩:=O.ok c k b hb
   refine⟨_,_,cv,_,b,rfl,?_,Arw rk hc,hk,h.now R (.bl _)⟩
   cases rx with
   |exn z m ha=>exact .exc ha x2
   |exf z=>rw[x1] at z;cases z
 .rename_i x n nx
  cases r with|cons rx r=>
  cases r with|cons rk r=>
  cases r
  cases hT:tyW S x with
  |none=>simp only[hT] at h;exact(show False from h).elim
  |some T=>
   simp only[hT] at h
   by_cases hn:Vp.contains n=true
   .rw[if_pos hn] at h
    obtain⟨h1,h2⟩:=Aw0 R rx hT
    cases rk
    exact⟨_,_,_,_,_,rfl,h1,rfl,Awz Θ.K h2 (by simpa using hn),Hv h R (.bl _)⟩
   .rw[if_neg hn] at h
    exact(show False from h).elim
 .exact(show False from h).elim
end
section
variable {Θ:Th} {X:Cx} {E:L2.St->XK} {e:Expr} {es:List Expr} {p pos:Pos} {gs:De->M (List W)}
theorem Bah {isa:Nat->W->Option Bool} (hK:X.K=Θ.K) (O:Adl Θ isa) (hm:X.mg "isinstance"=none) (ha:WA X (e::es) (tFs Θ E gs)) (hg:X.env.kindOf "isinstance"=some .globalImplicit)
  (he:starEach (e::es) X.env=(false,eval e X.env)::starEach es X.env) (hpl:(backTo pos (starEach es X.env)).any (·.1)=false):WE X (.Call (.Name "isinstance" p) (e::es) [] pos) (tF Θ E (Ah (Jq isa) gs)):=by
 refine WE.weak (kbi (Ajk Θ.K hK) hm (by kernel_rfl:bootBuiltins "isinstance"=some (.builtin "isinstance")) ha hg (by decide) (by decide) he hpl) fun σ H Q ⟨ρ,S,δ,R,sl,q⟩=>?_
 refine⟨ρ,S,δ,R,sl,(Ax.seq (Rel:=RVs Θ) q).mono ?_⟩
 rintro vs H1 ⟨ρ1,S1,ws,p1,t1,R1,rvs,q1⟩
 exact Bcw O R1 rvs q1
theorem Am1 {w:W} {v:V} (hw:∀ρ H,RV Θ ρ H w v) (h:WE X e (tC v)):WE X e (tF Θ E (kF w)):=WE.weak h fun σ H Q q=>by
 obtain⟨ρ,S,δ,R,sl,q⟩:=q
 exact q.now R (hw ρ H)
end
def Mj (c:Nat) (dv:List W) (gs:De->M (List W)):MS:=fun δ=>El (gs δ) (fun ws δ S=>if ws.length+dv.length=2 then .ex (c,(ws ++ dv).headD .non) δ S else .bad) δ
structure Bai (X:Cx) (C:Addr) (n:Nat):Prop where
 ex:∃(fI:Addr) (fd:FuncData) (ps:List Str) (k:Nat) (dvs:List V) (ds:List Value),Aa5 X.K C fI=true∧PySem.W.keepIn X.K (.ref C)=true∧PySem.W.typeIn X.K (.ref fI)=some (.type "function")∧
  Ib X.prog X.w X.K X.mg X.base (CXo X.prog X.w) k fI fd ps (Ajp C) true∧Ht (k+1) X.A true∧Binds X.K fd ps ds∧Vals dvs ds∧dvs.length=n
section
variable {Θ:Th} {X:Cx} {e:Expr} {es:List Expr} {x:Str} {p cpos pos:Pos} {E:XK} {gs:De->M (List W)}
theorem Ajy {c:Nat} {dv:List W} (hxf:Θ.xf c=none) (hex:X.ex=[]) (hx:Bai X (Θ.cl c) dv.length) (hm:X.mg x=some (.ref (Θ.cl c))) (hc:X.calm=true) (hR:Vn X E) (ha:WA X (e::es) (tFs Θ (fun _=>E) gs)) (hg:X.env.kindOf x=some .globalImplicit)
  (hd:(x==("__debug__":Str))=false) (he:starEach (e::es) X.env=(false,eval e X.env)::starEach es X.env) (hpl:(backTo cpos (starEach es X.env)).any (·.1)=false) :
  WS X (.Raise (some (.Call (.Name x p) (e::es) [] cpos)) none pos) (tS Θ (fun _=>E) (Mj c dv gs)):=by
 obtain⟨fI,fd,ps,k,dvs,ds,h1,h2,h3,F,hr,hb,hv,hl⟩:=hx.ex
 refine WS.weak ⟨Ajq h1 h2 h3 hex hg hm hc hR F hr hb hv ha.un hd he hpl⟩ fun D σ H ⟨ρ,S,δ,R,sl,q⟩=>?_
 refine⟨ρ,S,δ,R,sl.2,(Dd.lift (Rel:=RVs Θ) sl q).mono ?_⟩
 rintro vs H1 ⟨ρ1,S1,ws,p1,t1,R1,sl1,rvs,q1⟩
 by_cases hz:ws.length+dv.length=2
 .rw[if_pos hz] at q1
  have z:=q1 ρ1 H1 σ (List.prefix_refl _) (Cu.refl _ _) R1 sl1
  unfold XP at z
  dsimp only at z
  rw[hxf] at z
  have l:=rvs.length
  exact⟨by omega,Nat.le_trans (by omega:vs.length≤2) (by decide),z⟩
 .rw[if_neg hz] at q1
  exact q1.elim
end
def Ajz (exm:Nat->Bool) (i:Nat) (b su:MS):MS:=fun δ S=>match b δ S with
 |.ex c δ1 S1=>if exm c.1 then (match su (δ1.set i (some (.exn c.1 c.2))) S1 with
   |.nx δ2 S2=>.nx (δ2.set i none) S2
   |.bk δ2 S2=>.bk (δ2.set i none) S2
   |.ct δ2 S2=>.ct (δ2.set i none) S2
   |.rt w S2=>.rt w S2
   |_=>.bad) else .bad
 |r=>r
section
variable {Θ:Th}
theorem RSs.unset {ρ:List Addr} {H:Hp} {δ:De} {σ:L2.St} {i:Nat} (h:RSs Θ ρ H δ σ):RSs Θ ρ H (δ.set i none) (σ.set i none):=by
 refine⟨by rw[List.length_set,List.length_set];exact h.1,fun j u e=>?_⟩
 by_cases hj:j=i
 .subst hj
  have hl:j < δ.length:=by
   have z:=(List.getElem?_eq_some_iff.mp e).1
   rwa [List.length_set] at z
  rw[List.getElem?_set_self hl] at e
  cases e
 .rw[List.getElem?_set_ne (Ne.symm hj)] at e
  obtain⟨z,h1,h2⟩:=h.2 j u e
  exact⟨z,by rw[List.getElem?_set_ne (Ne.symm hj)];exact h1,h2⟩
variable {X:Cx} {E:L2.St->XK} {body suite:List Stmt} {b0:Stmt} {n x:Str} {i k:Nat} {np hpos pos:Pos} {b su:MS} {exm:Nat->Bool}
theorem Aw1 (hK:X.K=Θ.K) (hstk:X.stack=X.env::X.outer) (hfr:X.env.frame=some X.env.locals) (nd:X.N.Nodup) (hm:X.mg x=some (.ref (Θ.cl k))) (hx:∀c,exm c=true->Θ.xf c=none∧PySem.W.exmOne Θ.K (.ref (Θ.cl c)) (.ref (Θ.cl k))=some true)
  (hb:∀(pn:List (Addr×Obj)) (xe:Value->Shared->Prop) (E':L2.St->XK),Fw (CXo X.prog X.w) (X.tryB pn xe) E'->WSs (X.tryB pn xe) body (tS Θ E' b)) (hs:∀e,WSs (X.suite e) (b0::suite) (tS Θ E0s su))
  (hi:X.N[i]?=some n) (hn:X.env.scope.names.lookup n=some .local) (hg:X.env.kindOf x=some .globalImplicit) (hd:(x==("__debug__":Str))=false) :
  WS X (.Try body [.ExceptHandler (some (.Name x np)) (some n) (b0::suite) hpos] [] [] pos) (tS Θ E (Ajz exm i b su)):=by
 refine WS.weak (Bb8 (tb:=fun E'=>tS Θ E' b) hstk hfr nd hm hb hs hi hn hg hd) fun D σ H ⟨ρ,S,δ,R,sl,q⟩=>?_
 refine⟨ρ,S,δ,R,sl,?_⟩
 unfold Ajz at q
 cases eb:b δ S with
 |nx δ1 S1=>rw[eb] at q;exact q
 |rt w S1=>rw[eb] at q;exact q
 |bk δ1 S1=>rw[eb] at q;exact q
 |ct δ1 S1=>rw[eb] at q;exact q
 |bad=>rw[eb] at q;exact q
 |ex c δ1 S1=>
  rw[eb] at q
  dsimp only at q
  by_cases hc:exm c.1=true
  .rw[if_pos hc] at q
   obtain⟨xf,ex1⟩:=hx c.1 hc
   intro ρ1 H1 σ1 p1 t1 R1 sl1
   unfold XP
   rw[xf]
   refine⟨by rw[hK];exact ex1,fun ea hea=>?_⟩
   have nea:ea∉ρ1:=fun z=>by
    obtain⟨o,ho⟩:=R1.tracked z
    rw[hea] at ho;cases ho
   have t2:Cu ρ1 ρ1 H1 (upd H1 ea (Aav ea (.ref (Θ.cl c.1)))):=Ce hea
   refine⟨ρ1,S1,δ1.set i (some (.exn c.1 c.2)),R1.beside hea,(sl1.mono (List.prefix_refl _) t2).set (.exn xf nea Bo),?_⟩
   have sh:∀r,Dd Θ ρ H r D E->Dd Θ ρ1 (upd H1 ea (Aav ea (.ref (Θ.cl c.1)))) r D E:=fun r z=>Dd.shift z p1 (t1.trans t2)
   cases es:su (δ1.set i (some (.exn c.1 c.2))) S1 with
   |nx δ2 S2=>rw[es] at q;exact fun ρ3 H3 σ3 p3 t3 R3 sl3=>sh _ q ρ3 H3 _ p3 t3 R3 sl3.unset
   |bk δ2 S2=>rw[es] at q;exact fun ρ3 H3 σ3 p3 t3 R3 sl3=>sh _ q ρ3 H3 _ p3 t3 R3 sl3.unset
   |ct δ2 S2=>rw[es] at q;exact fun ρ3 H3 σ3 p3 t3 R3 sl3=>sh _ q ρ3 H3 _ p3 t3 R3 sl3.unset
   |rt w S2=>rw[es] at q;exact fun ρ3 H3 v p3 t3 R3 rv=>sh _ q ρ3 H3 _ p3 t3 R3 rv
   |ex c2 δ2 S2=>rw[es] at q;exact q.elim
   |bad=>rw[es] at q;exact q.elim
  .rw[if_neg hc] at q
   exact q.elim
end
def Ahp (z:Str):List W:=(List.range z.cps.size).map fun(i:Nat)=>W.tup [.int ((i:Int)+1),.str ⟨#[z.cps.getD i 0]⟩]
def Ahq (f:De->M W):De->M Src:=fun δ=>do let x←f δ;match x with
 |.str z=>pure (.fix (Ahp z))
 |_=>bad
theorem Am2 {Θ:Th} {ρ:List Addr} {H:Hp} (z:Str):JOk Θ (Ite z) (Ahp z) ρ H where
 go:=fun ρ1 H1 i p t hi=>by
  unfold Ahp at hi ⊢
  rw[List.length_map,List.length_range] at hi
  refine⟨hi,?_⟩
  rintro x H' ⟨c,T,hc,hT,rfl,rfl⟩
  refine⟨Ce hT,fun S r=>r.beside hT,_,by rw[List.getElem?_map,List.getElem?_range hi];rfl,.tup Bo (.cons (.int _) (.cons ?_ .nil))⟩
  have e:z.cps.getD i 0=c:=by rw[Array.getD_eq_getD_getElem?,hc];rfl
  rw[e]
  exact .str _
 stop:=fun ρ1 H1 i t hi=>by
  unfold Ahp at hi
  rw[List.length_map,List.length_range] at hi
  exact hi
section
variable {Θ:Th} {X:Cx} {E:L2.St->XK} {e:Expr} {f:De->M W} {elts:List Expr} {kt j:Nat} {tpos p pos cpos kpos:Pos}
theorem Aw2 (hm:X.mg "enumerate"=none) (he:WE X e (tF Θ E f)) (hg:X.env.kindOf "enumerate"=some .globalImplicit) (hs:starEach [e] X.env=[(false,eval e X.env)]) :
  WI X (.Tuple elts kt tpos) (.Call (.Name "enumerate" p) [e] [⟨some "start",.Constant (.int 1) j cpos,kpos⟩] pos) (tFi Θ E (Ahq f)):=by
 refine WI.weak (Aql hm he hg hs) fun σ H Q ⟨ρ,S,δ,R,sl,q⟩=>?_
 refine⟨ρ,S,δ,R,sl,(Ax.seq (Rel:=RV Θ) q).mono ?_⟩
 rintro v H1 ⟨ρ1,S1,w,p1,t1,R1,rv,q1⟩
 cases rv <;> first|exact(show False from q1).elim|skip
 rename_i z
 exact⟨z,rfl,Ax.now (Rel:=Su Θ) q1 R1 (Am2 z)⟩
end
def Aj0 (ws us:List W):List W:=List.zipWith (fun x y=>W.tup [x,y]) ws us
def Arx:List W->M Src
 |[.tup ws,.tup us]=>pure (.fix (Aj0 ws us))
 |[.ref n,.ref m]=>fun S=>match S[n]?,S[m]? with
  |some (.lst _),some (.lst _)=>.ok (.zl n m) S
  |_,_=>.bad
 |_=>bad
def Aj1 (gs:De->M (List W)):De->M Src:=fun δ=>do let ws←gs δ;Arx ws
section
variable {Θ:Th} {ρ:List Addr} {S:Store} {H:Hp}
theorem Ary {a b:Addr} {ws us:List W} {vs zs:List V} (h1:H a=some (.tup vs)) (r1:RVs Θ ρ H ws vs) (h2:H b=some (.tup zs)) (r2:RVs Θ ρ H us zs):JOk Θ (Itz Θ.K true a b) (Aj0 ws us) ρ H where
 go:=fun ρ1 H1 i p t hi=>by
  unfold Aj0 at hi ⊢
  rw[List.length_zipWith] at hi
  have i1:i < ws.length:=Nat.lt_of_lt_of_le hi (Nat.min_le_left ..)
  have i2:i < us.length:=Nat.lt_of_lt_of_le hi (Nat.min_le_right ..)
  obtain⟨vx,g1,rx⟩:=r1.get (List.getElem?_eq_getElem i1)
  obtain⟨vy,g2,ry⟩:=r2.get (List.getElem?_eq_getElem i2)
  have s1:SqT Θ.K H1 a vs:=SqT.of (t.t _ _ h1)
  have s2:SqT Θ.K H1 b zs:=SqT.of (t.t _ _ h2)
  refine⟨⟨vs,zs,vx,vy,s1,s2,g1,g2⟩,?_⟩
  rintro v H' ⟨pp,x',y',f1,f2,hp,rfl,rfl⟩
  have z1:=f1 vs s1
  have z2:=f2 zs s2
  rw[g1] at z1;cases z1
  rw[g2] at z2;cases z2
  refine⟨Ce hp,fun S r=>r.beside hp,.tup [ws[i],us[i]],?_,.tup Bo (.cons ((rx.mono p t).mono (List.prefix_refl _) (Ce hp)) (.cons ((ry.mono p t).mono (List.prefix_refl _) (Ce hp)) .nil))⟩
  rw[List.getElem?_zipWith,List.getElem?_eq_getElem i1,List.getElem?_eq_getElem i2]
 stop:=fun ρ1 H1 i t hi=>by
  unfold Aj0 at hi
  rw[List.length_zipWith] at hi
  refine⟨vs,zs,SqT.of (t.t _ _ h1),SqT.of (t.t _ _ h2),?_⟩
  rw[←r1.length,←r2.length]
  omega
variable {X:Cx} {E:L2.St->XK} {e:Expr} {es:List Expr} {gs:De->M (List W)} {elts:List Expr} {kt:Nat} {tpos p pos:Pos}
theorem Baj (hK:X.K=Θ.K) (hm:X.mg "zip"=none) (ha:WA X (e::es) (tFs Θ E gs)) (hg:X.env.kindOf "zip"=some .globalImplicit) (hs:starEach (e::es) X.env=(false,eval e X.env)::starEach es X.env) (hpl:(backTo pos (starEach es X.env)).any (·.1)=false) :
  WI X (.Tuple elts kt tpos) (.Call (.Name "zip" p) (e::es) [] pos) (tFi Θ E (Aj1 gs)):=by
 refine WI.weak ⟨Av9 hg hm ha.un hs hpl⟩ fun σ H Q ⟨ρ,S,δ,R,sl,q⟩=>?_
 refine⟨ρ,S,δ,R,sl,(Ax.seq (Rel:=RVs Θ) q).mono ?_⟩
 rintro vs H1 ⟨ρ1,S1,ws,p1,t1,R1,rvs,q1⟩
 unfold Arx at q1
 rw[hK]
 split at q1
 .rename_i xs ys
  cases rvs with|cons rx rvs=>
  cases rvs with|cons ry rvs=>
  cases rvs
  cases rx with|tup h1 r1=>
  cases ry with|tup h2 r2=>
  exact⟨true,_,_,_,_,rfl,SqT.of h1,SqT.of h2,Ax.now (Rel:=Su Θ) q1 R1 (Ary h1 r1 h2 r2)⟩
 .rename_i n m
  cases rvs with|cons rx rvs=>
  cases rvs with|cons ry rvs=>
  cases rvs
  cases rx with|ref hn=>
  cases ry with|ref hm'=>
  cases e1:S1[n]? with
  |none=>simp only[e1] at q1;exact(show False from q1).elim
  |some c1=>
   cases e2:S1[m]? with
   |none=>simp only[e1,e2] at q1;cases c1 <;> exact(show False from q1).elim
   |some c2=>
    simp only[e1,e2] at q1
    cases c1 <;> cases c2 <;> first|exact(show False from q1).elim|skip
    obtain⟨a',ha',vs,g1,_⟩:=R1.get e1
    obtain⟨b',hb',zs,g2,_⟩:=R1.get e2
    rw[hn] at ha';cases ha'
    rw[hm'] at hb';cases hb'
    exact⟨false,_,_,vs,zs,rfl,.inl (.inl g1),.inl (.inl g2),Hv (Rel:=Su Θ) q1 R1 ⟨_,_,hn,hm',rfl⟩⟩
 .exact(show False from q1).elim
end
def Aj2 (K:PySem.W.Frag) (a:Addr) (D:List (Str×Str)):Prop:=∀h,K.In h->KTD.TextTab h a (D.map fun p=>(p.1,KTD.Dat.flat (.str p.2)))
def mdW (D:List (Str×Str)):W->M W
 |.str k=>match D.lookup k with
  |some z=>pure (.str z)
  |none=>bad
 |_=>bad
def mdF (D:List (Str×Str)) (g:De->M W):De->M W:=fun δ=>do let y←g δ;mdW D y
theorem W0 (k:Str):∀D:List (Str×Str),KTD.datumAt k (D.map fun p=>(p.1,KTD.Dat.flat (.str p.2)))=(D.lookup k).map fun z=>KTD.Dat.flat (.str z)
 |[]=>rfl
 |(x,z)::D=>by
  rw[List.map_cons,List.lookup_cons,KTD.datumAt]
  by_cases h:k=x
  .subst h;simp
  .have h':(k==x)=false:=by simpa using h
   rw[if_neg (by simpa using h),h',W0 k D]
section
variable {Θ:Th} {X:Cx} {a b c e:Expr} {p pos:Pos} {E:L2.St->XK} {g:De->M W} {x:Str} {A:Addr} {D:List (Str×Str)}
theorem Aw3 (hT:Aj2 X.K A D):IxR X (fun x y H Q=>x=.ref A∧∃k z,y=.str k∧D.lookup k=some z∧Q (.str z) H):=by
 intro value slice pins s σ H x y v u Q I rx ry h hs
 obtain⟨rfl,k,z,rfl,l,q⟩:=h
 obtain rfl:v=Value.ref A:=rx
 obtain⟨t,rfl⟩:=ry
 have T:KTD.Here s.heap s.heap A _:=⟨hT _ I.kIn,fun _ _ o=>o⟩
 refine tail_any T.typeIs PySem.F.slot_dict_getitem.lookup ?_ hs
 unfold getItem
 try with_reducible refine wpAny_holding ?_
 refine wpAny_bind (wpAny_sequenceKey T.typeIs (by decide) (wpAny_bind (wpAny_callSpecial?_slot (name:=Str.ofString "__getitem__") T.typeIs slot_dict_getitem (wpAny_call_entry slot_dict_getitem T.typeIs entry_dict_getitem ?_ (args_dict_getitem _ _)))))
 show wpAny _ _ (dictGet A (.str k t) >>= _) _ _ s
 refine wpAny_bind (KTD.dictGet_text T (fun d v ha hv=>wpAny_pure ⟨v,rfl,wpAny_pure ?_⟩) fun hn=>?_)
 .rw[W0,l] at ha
  cases ha
  have hv':Reads s.heap v (.str z) []:=hv s.heap
  cases hv'
  exact⟨.str z,H,I.tok _,⟨_,rfl⟩,q⟩
 .rw[W0,l] at hn;cases hn
theorem Bcx (hT:Aj2 X.K A D) (hm:X.mg x=some (.ref A)) (hg:X.env.kindOf x=some .globalImplicit) (hd:(x==("__debug__":Str))=false) (hb:WE X b (tF Θ E g)) (hs:Qz b):WE X (.Subscript (.Name x p) b pos) (tF Θ E (mdF D g)):=
 WE.weak (kix (Aw3 hT) (At5 hm (show RelV (.ref A) (.ref A) from rfl) hg hd) hb hs) fun σ H Q ⟨ρ,S,δ,R,sl,q⟩=>by
  refine⟨ρ,S,δ,R,sl,(Ax.seq (Rel:=RV Θ) q).mono ?_⟩
  rintro v H1 ⟨ρ1,S1,w,p1,t1,R1,rv,q1⟩
  refine⟨rfl,?_⟩
  cases rv <;> try exact(show False from q1).elim
  rename_i k
  cases hz:D.lookup k with
  |none=>simp only[mdW,hz] at q1;exact(show False from q1).elim
  |some z=>
   simp only[mdW,hz] at q1
   exact⟨k,z,rfl,hz,Ax.now (Rel:=RV Θ) q1 R1 (.str z)⟩
end
section
variable {Θ:Th} {X:Cx} {E:L2.St->XK} {elt iter tg:Expr} {ifs:List Expr} {scope:Scope} {pos spos py:Pos} {y:Str} {i:Nat} {src:De->M Src} {s:Tg} {g:TG} {tf:De->M Bool} {ef:De->M W} {own:List Str} {cap:List Nat} {sc:Scope}
theorem Bak {wi:TI} {g:TG} {tt:TT} {te:TE} (hc:X.calm=true) (hE:X.env.scope=sc)
  (hi:WI X tg iter wi) (hg:∀C s H ex,WG (X.comp scope own cap C s H ex) tg g) (ht:∀C s H ex,WTs (X.comp scope own cap C s H ex) ifs tt) (he:∀C s H ex,WE (X.comp scope own cap C s H ex) elt te)
  (hcap:cap.all (fun j=>match X.N[j]? with|some x=>decide (scope.names.lookup x=some .free)|none=>false)=true) (hkind:scope.kind=.function) (hcell:scope.names.all (fun y=>decide (y.2≠.cell))=true)
  (hnames:scope.names.all (fun y=>!decide (y.2=.local)||decide (scope.names.lookup y.1=some .local))=true)
  (hfree:scope.names.all (fun y=>!decide (y.2=.free)||(decide (sc.names.lookup y.1=some .cell)||decide (sc.names.lookup y.1=some .free)))=true) (hs:∀x,foldedSetIterable iter X.env x=pure x)
  (hy:WG X (.Name y py) (K8 i)) (hsw:swapsWith (.ListComp elt [⟨tg,iter,ifs,0⟩] scope pos) (some (.Name y py)) spos.line X.env=pure true) :
  WS X (.Assign [.Name y py] (.ListComp elt [⟨tg,iter,ifs,0⟩] scope pos) spos) (Apf (Zb wi g tt te own cap) (K8 i)):=by
 refine⟨Ap4 hc hE hi.un (fun C s H ex=>(hg C s H ex).un) (fun C s H ex=>(ht C s H ex).un) (fun C s H ex=>(he C s H ex).un) (fun j hj=>?_) hkind (fun y hy=>?_) (fun y hy hl=>?_) (fun y hy hl=>?_) hs hy.un hsw⟩
 .have q:=List.all_eq_true.mp hcap j hj
  cases e:X.N[j]? with
  |none=>rw[e] at q;cases q
  |some x=>rw[e] at q;exact⟨x,rfl,of_decide_eq_true q⟩
 .exact of_decide_eq_true (List.all_eq_true.mp hcell y hy)
 .have q:=List.all_eq_true.mp hnames y hy
  rw[decide_eq_true hl] at q
  exact of_decide_eq_true q
 .have q:=List.all_eq_true.mp hfree y hy
  rw[decide_eq_true hl,Bool.not_true,Bool.false_or,Bool.or_eq_true] at q
  exact q.imp of_decide_eq_true of_decide_eq_true
theorem Arz (hc:X.calm=true) (hE:X.env.scope=sc) (hi:WI X tg iter (tFi Θ E src)) (hg:∀C s H ex,WG (X.comp scope own cap C s H ex) tg g) (gk:GOk Θ s g) (ht:∀C s H ex,WTs (X.comp scope own cap C s H ex) ifs (tFb Θ E0s tf)) (he:∀C s H ex,WE (X.comp scope own cap C s H ex) elt (tF Θ E0s ef))
  (hcap:cap.all (fun j=>match X.N[j]? with|some x=>decide (scope.names.lookup x=some .free)|none=>false)=true) (hkind:scope.kind=.function) (hcell:scope.names.all (fun y=>decide (y.2≠.cell))=true)
  (hnames:scope.names.all (fun y=>!decide (y.2=.local)||decide (scope.names.lookup y.1=some .local))=true)
  (hfree:scope.names.all (fun y=>!decide (y.2=.free)||(decide (sc.names.lookup y.1=some .cell)||decide (sc.names.lookup y.1=some .free)))=true) (hs:∀x,foldedSetIterable iter X.env x=pure x)
  (hy:WG X (.Name y py) (K8 i)) (hsw:swapsWith (.ListComp elt [⟨tg,iter,ifs,0⟩] scope pos) (some (.Name y py)) spos.line X.env=pure true) :
  WS X (.Assign [.Name y py] (.ListComp elt [⟨tg,iter,ifs,0⟩] scope pos) spos) (tS Θ E (Bx i (Cy own.length cap src s tf ef))):=
 WS.weak (Bak hc hE hi hg ht he hcap hkind hcell hnames hfree hs hy hsw) fun D σ H ⟨ρ,S,δ,R,sl,q⟩=>by
  refine Adk gk _ _ _ ⟨ρ,S,δ,R,sl.2,(Dd.lift (Rel:=RV Θ) sl q).mono ?_⟩
  rintro v H1 ⟨ρ1,S1,w,p1,t1,R1,sl1,rv,q1⟩
  exact q1.nxt R1 (sl1.set rv)
end
def noStar:Expr->Bool
 |.Starred _ _=>false
 |_=>true
def Zm:Expr->Bool
 |.Set _ _ _=>false
 |_=>true
def Abg:Expr->Bool
 |.ListComp _ _ _ _=>false
 |.SetComp _ _ _ _=>false
 |.DictComp _ _ _ _ _=>false
 |_=>true
def Am3:Expr->Bool
 |.Call _ _ _ _=>false
 |_=>true
def Ahr:Expr->Bool
 |.Slice _ _ _ _=>false
 |_=>true
def plainT:Expr->Bool
 |.UnaryOp .Not _ _=>false
 |.BoolOp _ _ _=>false
 |.IfExp _ _ _ _=>false
 |.Compare _ _ _ _=>false
 |_=>true
section
variable {env:Env} {a b:Expr} {es:List Expr} {pos:Pos}
theorem Jf (h:noStar a=true):starEach (a::es) env=(false,eval a env)::starEach es env:=by
 cases a <;> first|rfl|cases h
theorem Jb:∀{es:List Expr},es.all noStar=true->(backTo pos (starEach es env)).any (·.1)=false
 |[],_=>rfl
 |e::es,h=>by
  rw[List.all_cons,Bool.and_eq_true] at h
  rw[Jf h.1]
  exact Jb h.2
theorem Adm:∀{es:List Expr},es.all noStar=true->(backTo pos (starEach es env)).all (fun x=>!x.1)=true
 |[],_=>rfl
 |e::es,h=>by
  rw[List.all_cons,Bool.and_eq_true] at h
  rw[Jf h.1]
  exact Adm h.2
theorem Abh (h:Zm a=true):∀x,foldedSetIterable a env x=pure x:=fun x=>by
 cases a <;> first|rfl|cases h
theorem Q6 {op:CmpOp} (h:Zm b=true):behindInMarks op b=false:=by
 cases b <;> first|rfl|cases h
theorem Ahs {t:Option Expr} {n:Nat} (h:Abg a=true):swapsWith a t n env=pure false:=by
 cases a <;> first|rfl|cases h
theorem Ar0 {x:Str} (h:Am3 a=true):attributeBase a x env (eval a env)=eval a env:=by
 cases a <;> first|rfl|cases h
theorem At9 (h:Ahr b=true):Qz b:=by
 cases b <;> first|exact fun _ _=>rfl|cases h
theorem Aht (h:plainT a=true):∀whole,isTrue a env whole=(do let v←whole;standAt a.pos;holding [v] (truthy v)):=fun w=>by
 cases a <;> first|rfl|cases h|skip
 rename_i op o p
 cases op <;> first|rfl|cases h
end
def Af0 (x:Str):List Str->Option Nat
 |[]=>none
 |y::ys=>if y=x then some 0 else (Af0 x ys).map (·+1)
theorem Vq {x:Str}:∀{l:List Str} {i:Nat},Af0 x l=some i->l[i]?=some x
 |[],_,h=>by cases h
 |y::ys,i,h=>by
  unfold Af0 at h
  split at h
  .rename_i e;cases h;subst e;rfl
  .obtain⟨j,h1,rfl⟩:=Option.map_eq_some_iff.mp h
   simpa using Vq h1
structure Fi where
 g:List W->M W
 np:Nat
 dv:List W
structure Gm where
 N:List Str
 sc:Scope
 fn:Str->Option Fi
 con:Str->Option W
 bi:Str->Bool
 exc:Str->Option Nat
 isa:Nat->W->Option Bool
 ns:List Int
 fuel:Nat
 calm:Bool
 fnB:Bool
 rs:Bool
 mdc:Str->Option (List (Str×Str))
 exi:Str->Option (Nat×List W)
 hcl:Str->Option Nat
 exm:Nat->Nat->Bool
 loops:Bool
 tr:Bool
structure Gm.Ok (Θ:Th) (Γ:Gm) (X:Cx) (E:L2.St->XK):Prop where
 hK:X.K=Θ.K
 ns:Γ.ns=Θ.ns
 hu:X.A.units+64 < cLine
 N:X.N=Γ.N
 nd:X.N.Nodup
 sc:X.env.scope=Γ.sc
 fn:∀x i,Γ.fn x=some i->∃(n:Nat) (fa:Addr) (fd:FuncData) (ps:List Str) (df:Stmt) (cm:Bool),Ci X.K X.mg x df ps fa fd∧Ib X.prog X.w X.K X.mg X.base (CXo X.prog X.w) n fa fd ps (spF Θ i.g) cm∧Ht n X.A cm∧
  ∃dvs ds,Eg D.Fv i.dv=some dvs∧Vals dvs ds∧Binds X.K fd ps ds
 ps:Fw (CXo X.prog X.w) X E
 con:∀x w,Γ.con x=some w->∃v u,(∀ρ H,RV Θ ρ H w v)∧RelV v u∧(X.mg x=some u∨(X.mg x=none∧bootBuiltins x=some u))
 bi:∀x,Γ.bi x=true->X.mg x=none
 isa:Adl Θ Γ.isa
 calm:Γ.calm=true->X.calm=true
 fnB:Γ.fnB=true->∀x,X.fn x=true
 mdc:∀x D,Γ.mdc x=some D->∃a,Aj2 X.K a D∧X.mg x=some (.ref a)
structure Rd where
 val:De->M W
 tst:De->M Bool
 base:De->M W
 lo:De->M (Option Int)
 hi:De->M (Option Int)
 src:De->M Src
 srcT:De->M Src
def Do {α:Type}:De->M α:=fun _=>bad
def Rd.no:Rd:=⟨Do,Do,Do,Do,Do,Do,Do⟩
def Rd.of (ns:List Int) (f:De->M W):Rd:=⟨f,Az f,Do,Do,Do,Eh ns f,Eh ns f⟩
structure Kl (Θ:Th) (X:Cx) (E:L2.St->XK) (e:Expr) (r:Rd):Prop where
 val:WE X e (tF Θ E r.val)
 tst:WT X e (tFb Θ E r.tst)
 base:∀o n p,e=.Attribute o n p->WE X o (tF Θ E r.base)
 lo:∀lo hi p,e=.Slice lo hi none p->WO X lo (tFo Θ E r.lo)
 hi:∀lo hi p,e=.Slice lo hi none p->WO X hi (tFo Θ E r.hi)
 src:∀tg,WI X tg e (tFi Θ E r.src)
 srcT:∀es k p,WI X (.Tuple es k p) e (tFi Θ E r.srcT)
inductive G5 (Θ:Th) (X:Cx) (E:L2.St->XK):List Expr->List Rd->Prop
 |nil:G5 Θ X E [] []
 |cons {e:Expr} {es:List Expr} {r:Rd} {rs:List Rd}:Kl Θ X E e r->G5 Θ X E es rs->G5 Θ X E (e::es) (r::rs)
section
variable {Θ:Th} {X:Cx} {E:L2.St->XK} {e a b c o:Expr} {es:List Expr} {pos:Pos} {tg:Expr}
theorem Ck:WE X e (tF Θ E Do):=⟨fun _ _ _ _ _ _ ⟨_,_,_,_,_,q⟩=>False.elim q⟩
theorem Af1:WT X e (tFb Θ E Do):=⟨fun _ _ _ _ _ _ ⟨_,_,_,_,_,q⟩=>False.elim q⟩
theorem Am4:WW X e (tFb Θ E Do):=⟨fun _ _ _ _ _ _ _ ⟨_,_,_,_,_,q⟩=>False.elim q⟩
theorem Nm {u:Option Expr}:WO X u (tFo Θ E Do):=⟨fun _ _ _ _ _ _ ⟨_,_,_,_,_,q⟩=>False.elim q⟩
theorem W2:WI X tg e (tFi Θ E Do):=⟨fun _ _ _ _ _ _ ⟨_,_,_,_,_,q⟩=>False.elim q⟩
theorem Hs:Kl Θ X E e Rd.no:=⟨Ck,Af1,fun _ _ _ _=>Ck,fun _ _ _ _=>Nm,fun _ _ _ _=>Nm,fun _=>W2,fun _ _ _=>W2⟩
theorem La {ns:List Int} {f:De->M W} (hK:X.K=Θ.K) (hn:ns=Θ.ns) (h:WE X e (tF Θ E f)) (ht:plainT e=true):Kl Θ X E e (Rd.of ns f):=by
 subst hn
 exact⟨h,Amt h (Aht ht),fun _ _ _ _=>Ck,fun _ _ _ _=>Nm,fun _ _ _ _=>Nm,fun _=>Adh hK h,fun _ _ _=>Adh hK h⟩
theorem O1 {ns:List Int} {f:De->M W} {t:De->M Bool} (hK:X.K=Θ.K) (hn:ns=Θ.ns) (h:WE X e (tF Θ E f)) (ht:WT X e (tFb Θ E t)):Kl Θ X E e { Rd.of ns f with tst:=t }:=by
 subst hn
 exact⟨h,ht,fun _ _ _ _=>Ck,fun _ _ _ _=>Nm,fun _ _ _ _=>Nm,fun _=>Adh hK h,fun _ _ _=>Adh hK h⟩
def vals:List Rd->De->M (List W)
 |[]=>nilF
 |r::rs=>Aa r.val (vals rs)
theorem Ml:∀{es:List Expr} {rs:List Rd},G5 Θ X E es rs->es.all noStar=true->WA X es (tFs Θ E (vals rs))
 |_,_,.nil,_=>Az3
 |_,_,.cons h r,hs=>by
  rw[List.all_cons,Bool.and_eq_true] at hs
  exact Awc h.val (Ml r hs.2) (Jf hs.1)
def Am5:Const->De->M W
 |.int i=>kF (.int i)
 |.bool b=>kF (.bl b)
 |.none=>kF .non
 |.str x=>kF (.str x)
 |_=>Do
theorem Am6 {v:Const} {j:Nat}:WE X (.Constant v j pos) (tF Θ E (Am5 v)):=by
 cases v <;> first|exact Ck|skip
 .exact Aa8 rfl Bbv
 .exact Aa8 rfl kbl
 .exact Aa8 rfl Bbu
 .exact Aa8 rfl Bbw
def Am7 (Γ:Gm) (x:Str):De->M W:=if x==("__debug__":Str)||x==("__classdict__":Str)||decide (x=("__name__":Str)) then Do else
 match Γ.sc.names.lookup x with
 |some .globalImplicit=>match Γ.con x with
  |some w=>kF w
  |none=>Do
 |_=>match Af0 x Γ.N with
  |some i=>if Afp Γ.sc x then Ac i else Do
  |none=>Do
theorem Ar1 {Γ:Gm} {x:Str} (G:Γ.Ok Θ X E):WE X (.Name x pos) (tF Θ E (Am7 Γ x)):=by
 unfold Am7
 split
 .exact Ck
 rename_i h0
 rw[Bool.or_eq_true,Bool.or_eq_true,not_or,not_or] at h0
 obtain⟨⟨h1,h2⟩,h3⟩:=h0
 have h1:=Bool.eq_false_iff.mpr h1
 have h2:=Bool.eq_false_iff.mpr h2
 split
 .rename_i hg
  split
  .rename_i w hw
   obtain⟨v,u,hv,r,hm⟩:=G.con x w hw
   have hg':X.env.kindOf x=some .globalImplicit:=by show X.env.scope.names.lookup x=_;rw[G.sc];exact hg
   rcases hm with hm|⟨hm,hb⟩
   .exact Am1 hv (At5 hm r hg' h1)
   .exact Am1 hv (Azj hm hb r hg' (Bool.eq_false_iff.mpr h3) h1)
  .exact Ck
 .split
  .rename_i i hi
   split
   .rename_i hv
    exact Az0 (kv i (by rw[G.N];exact Vq hi) (by rw[G.sc];exact hv) h1 h2)
   .exact Ck
  .exact Ck
def Aw4 (op:Operator) (a b:Rd):De->M W:=match Bop.of op with
 |some o=>Ar o a.val b.val
 |none=>Do
theorem Aw5 {Γ:Gm} {op:Operator} {r s:Rd} (G:Γ.Ok Θ X E) (ha:Kl Θ X E a r) (hb:Kl Θ X E b s):WE X (.BinOp a op b pos) (tF Θ E (Aw4 op r s)):=by
 unfold Aw4
 split
 .rename_i o ho
  exact Azz G.hK ho ha.val hb.val
 .exact Ck
def Adn (f:De->M W):De->M W:=fun δ=>do let x←f δ;match x with
 |.int i=>pure (.int (-i))
 |_=>bad
theorem Bal {f:De->M W} (ha:WE X a (tF Θ E f)):WE X (.UnaryOp .USub a pos) (tF Θ E (Adn f)):=WE.weak (kun Avd ha) fun σ H Q ⟨ρ,S,δ,R,sl,q⟩=>by
 refine⟨ρ,S,δ,R,sl,(Ax.seq (Rel:=RV Θ) q).mono ?_⟩
 rintro v H1 ⟨ρ1,S1,w,p1,t1,R1,rv,q1⟩
 cases rv <;> first|exact(show False from q1).elim|skip
 exact⟨_,rfl,q1.now R1 (.int _)⟩
def unR (ns:List Int) (op:UnaryOp) (r:Rd):Rd:=match op with
 |.Not=>{ Rd.of ns (Ajr r.val) with tst:=Mh r.tst }
 |.USub=>Rd.of ns (Adn r.val)
 |_=>Rd.no
theorem Bam {Γ:Gm} {op:UnaryOp} {r:Rd} (G:Γ.Ok Θ X E) (ha:Kl Θ X E a r):Kl Θ X E (.UnaryOp op a pos) (unR Γ.ns op r):=by
 cases op
 .exact Hs
 .exact O1 G.hK G.ns (Az2 ha.val) (Awt ha.tst)
 .exact Hs
 .exact La G.hK G.ns (Bal ha.val) rfl
def Aw6:List Rd->De->M W
 |[]=>Do
 |[r]=>r.val
 |r::s::rs=>Gx r.val (Aw6 (s::rs))
def orV:List Rd->De->M W
 |[]=>Do
 |[r]=>r.val
 |r::s::rs=>orF r.val (orV (s::rs))
def Am8:List Rd->De->M Bool
 |[]=>Do
 |[r]=>r.tst
 |r::s::rs=>Ams r.tst (Am8 (s::rs))
def Aw7:List Rd->De->M Bool
 |[]=>Do
 |[r]=>r.tst
 |r::s::rs=>orT r.tst (Aw7 (s::rs))
theorem Ahu:∀{es:List Expr} {rs:List Rd},G5 Θ X E es rs->WE X (.BoolOp .And es pos) (tF Θ E (Aw6 rs))
 |_,_,.nil=>Ck
 |_,_,.cons h .nil=>Azk h.val
 |_,_,.cons h (.cons h2 r)=>Az1 h.val (Ahu (.cons h2 r))
theorem Am9:∀{es:List Expr} {rs:List Rd},G5 Θ X E es rs->WE X (.BoolOp .Or es pos) (tF Θ E (orV rs))
 |_,_,.nil=>Ck
 |_,_,.cons h .nil=>Azk h.val
 |_,_,.cons h (.cons h2 r)=>Bch h.val (Am9 (.cons h2 r))
theorem Ado:∀{es:List Expr} {rs:List Rd},G5 Θ X E es rs->WW X (.BoolOp .And es pos) (tFb Θ E (Am8 rs))
 |_,_,.nil=>Am4
 |_,_,.cons h .nil=>Azl h.tst
 |_,_,.cons h (.cons h2 r)=>Aws h.tst (Ado (.cons h2 r))
theorem Ahv:∀{es:List Expr} {rs:List Rd},G5 Θ X E es rs->WW X (.BoolOp .Or es pos) (tFb Θ E (Aw7 rs))
 |_,_,.nil=>Am4
 |_,_,.cons h .nil=>Bb5 h.tst
 |_,_,.cons h (.cons h2 r)=>Bac h.tst (Ahv (.cons h2 r))
def Aua (ns:List Int) (op:BoolOp) (rs:List Rd):Rd:=match op with
 |.And=>{ Rd.of ns (Aw6 rs) with tst:=Am8 rs }
 |.Or=>{ Rd.of ns (orV rs) with tst:=Aw7 rs }
theorem Ar2 {Γ:Gm} {op:BoolOp} {rs:List Rd} (G:Γ.Ok Θ X E) (h:G5 Θ X E es rs):Kl Θ X E (.BoolOp op es pos) (Aua Γ.ns op rs):=by
 cases op
 .exact O1 G.hK G.ns (Ahu h) (tw (Ado h))
 .exact O1 G.hK G.ns (Am9 h) (tw (Ahv h))
def Aw8 (ns:List Int) (ops:List CmpOp) (bs:List Expr) (r:Rd) (rs:List Rd):Rd:=match ops,bs,rs with
 |[op],[b],[s]=>if Zm b then { Rd.of ns (Bc op r.val s.val) with tst:=Az (Bc op r.val s.val) } else Rd.no
 |[op,op'],[_,c],[s,t]=>if Zm c then { Rd.of ns (J3 op op' r.val s.val t.val) with tst:=Az (J3 op op' r.val s.val t.val) } else Rd.no
 |_,_,_=>Rd.no
theorem Aw9 {Γ:Gm} {ops:List CmpOp} {r:Rd} {rs:List Rd} (G:Γ.Ok Θ X E) (ha:Kl Θ X E a r) (h:G5 Θ X E es rs):Kl Θ X E (.Compare a ops es pos) (Aw8 Γ.ns ops es r rs):=by
 unfold Aw8
 split
 .rename_i op b s
  cases h with|cons hb _=>
  split
  .rename_i hn
   exact O1 G.hK G.ns (Az9 G.hK G.hu ha.val hb.val (Q6 hn)) (Awi G.hK G.hu ha.val hb.val (Q6 hn))
  .exact Hs
 .rename_i op op' b c s t
  cases h with|cons hb h=>
  cases h with|cons hc _=>
  split
  .rename_i hn
   exact O1 G.hK G.ns (Art G.hK G.hu ha.val hb.val hc.val (Q6 hn)) (Amw G.hK G.hu ha.val hb.val hc.val (Q6 hn))
  .exact Hs
 .exact Hs
def Axa (es:List Expr) (rs:List Rd):De->M W:=if es.all noStar then Jh (vals rs) else Do
def Axb (es:List Expr) (rs:List Rd):De->M W:=if es.all noStar then Jo (vals rs) else Do
theorem Axc {rs:List Rd} {j:Nat} (h:G5 Θ X E es rs):WE X (.Tuple es j pos) (tF Θ E (Axa es rs)):=by
 unfold Axa
 split
 .rename_i hs;exact Az4 (Ml h hs)
 .exact Ck
theorem Axd {rs:List Rd} (h:G5 Θ X E es rs):WE X (.List es pos) (tF Θ E (Axb es rs)):=by
 unfold Axb
 split
 .rename_i hs;exact Az5 (Ml h hs)
 .exact Ck
def Adp:List (Option Rd)->List Rd->Option (List ((De->M W)×(De->M W)))
 |[],[]=>some []
 |some k::ks,v::vs=>(Adp ks vs).map ((k.val,v.val)::·)
 |_,_=>none
def Ana (ks:List (Option Rd)) (vs:List Rd):De->M W:=match Adp ks vs with
 |some l=>if decide (l.length≤15) then Nk l else Do
 |none=>Do
inductive Np (Θ:Th) (X:Cx) (E:L2.St->XK):List (Option Expr)->List (Option Rd)->Prop
 |nil:Np Θ X E [] []
 |none {es:List (Option Expr)} {rs:List (Option Rd)}:Np Θ X E es rs->Np Θ X E (none::es) (none::rs)
 |some {e:Expr} {r:Rd} {es:List (Option Expr)} {rs:List (Option Rd)}:Kl Θ X E e r->Np Θ X E es rs->Np Θ X E (some e::es) (some r::rs)
theorem Adq:∀{ks:List (Option Expr)} {vs:List Expr} {rk:List (Option Rd)} {rv:List Rd} {l:List ((De->M W)×(De->M W))},Np Θ X E ks rk->G5 Θ X E vs rv->Adp rk rv=Option.some l->
  WPs X pos ks vs (l.map fun p=>(tF Θ E p.1,tF Θ E p.2))∧ks.all (·.isSome)=true∧ks.length=vs.length∧l.length=ks.length
 |_,_,_,_,l,.nil,.nil,h=>by cases h;exact⟨Av2,rfl,rfl,rfl⟩
 |_,_,_,_,l,.nil,.cons _ _,h=>by cases h
 |_,_,_,_,l,.none _,_,h=>by unfold Adp at h;cases h
 |_,_,_,_,l,.some _ _,.nil,h=>by cases h
 |_,_,_,_,l,.some hk rk,.cons hv rv,h=>by
  unfold Adp at h
  obtain⟨l',h1,rfl⟩:=Option.map_eq_some_iff.mp h
  obtain⟨q1,q2,q3,q4⟩:=Adq rk rv h1
  exact⟨Aqg hk.val hv.val q1,by rw[List.all_cons,q2];rfl,by rw[List.length_cons,List.length_cons,q3],by rw[List.length_cons,List.length_cons,q4]⟩
theorem Ar3 {ks:List (Option Expr)} {rk:List (Option Rd)} {rv:List Rd} (hk:Np Θ X E ks rk) (hv:G5 Θ X E es rv):WE X (.Dict ks es pos) (tF Θ E (Ana rk rv)):=by
 unfold Ana
 split
 .rename_i l hl
  obtain⟨q1,q2,q3,q4⟩:=Adq (pos:=pos) hk hv hl
  split
  .rename_i h15
   cases ks with
   |nil=>
    cases es with
    |nil=>
     cases l with
     |nil=>exact Aww
     |cons p l=>cases q4
    |cons e es=>cases q3
   |cons k ks=>exact Awx q1 q2 q3 (by simp) (by rw[←q4];exact of_decide_eq_true h15) q4
  .exact Ck
 .exact Ck
def Ban (Γ:Gm):Expr->Option (List (Str×Str))
 |.Name x _=>if !(x==("__debug__":Str))&&decide (Γ.sc.names.lookup x=some .globalImplicit) then Γ.mdc x else none
 |_=>none
def subV (Γ:Gm) (a i:Expr) (o r:Rd):De->M W:=match Ban Γ a with
 |some D=>if Ahr i then mdF D r.val else Do
 |none=>match i with
  |.Slice _ _ none _=>slF Γ.ns o.val r.lo r.hi
  |.Slice _ _ (some _) _=>Do
  |_=>ixF Γ.ns o.val r.val
theorem Axe {Γ:Gm} {r s:Rd} (G:Γ.Ok Θ X E) (ha:Kl Θ X E a r) (hb:Kl Θ X E b s):WE X (.Subscript a b pos) (tF Θ E (subV Γ a b r s)):=by
 unfold subV
 split
 .rename_i D hD
  split
  .rename_i hn
   unfold Ban at hD
   split at hD
   .split at hD
    .rename_i hc
     rw[Bool.and_eq_true] at hc
     obtain⟨A,hT,hm⟩:=G.mdc _ D hD
     exact Bcx hT hm (by show X.env.scope.names.lookup _=_;rw[G.sc];exact of_decide_eq_true hc.2) (by simpa using hc.1) hb.val (At9 hn)
    .cases hD
   .cases hD
  .exact Ck
 split
 .rw[G.ns];exact Aq3 G.hK ha.val (hb.lo _ _ _ rfl) (hb.hi _ _ _ rfl)
 .exact Ck
 .rename_i n1 n2
  rw[G.ns]
  refine Bck G.hK G.hu ha.val hb.val (At9 ?_)
  cases b <;> first|rfl|skip
  rename_i lo hi st p
  cases st
  .exact(n1 _ _ _ rfl).elim
  .exact(n2 _ _ _ _ rfl).elim
def Anb:Option Rd->De->M (Option Int)
 |none=>Ed
 |some r=>Fx r.val
def Bao (Γ:Gm) (o:Expr) (f:Str) (r:Rd):De->M W:=Do
theorem Axf {Γ:Gm} {r:Rd} {f:Str} (G:Γ.Ok Θ X E) (ho:Kl Θ X E o r):WE X (.Attribute o f pos) (tF Θ E (Bao Γ o f r)):=Ck
end
section
variable {Θ:Th} {X:Cx} {E:L2.St->XK} {e a b c o f:Expr} {es:List Expr} {pos cpos p:Pos} {tg:Expr}
theorem Ar4 {CX:CXT} {k:Nat} {f:Addr} {fd:FuncData} {ps:List Str} {sp:Sp} {dvs vs:List V} {ds us:List Value} {E:L2.St->XK} {cm:Bool} {pins:List (Addr×Obj)} {σ:L2.St} {H:Hp} {s:Shared} {Q:VK}
  (F:Ib X.prog X.w X.K X.mg X.base CX k f fd ps sp cm) (hr:Ht k X.A cm) (hb:Binds X.K fd ps ds) (hd:Vals dvs ds) (hx:Fw CX X E) (I:Inv X pins σ H s) (r:Vals vs us) (q:sp (vs ++ dvs) H Q (E σ)) :
  wpAny (model X.prog X.w) X.A (call (.ref f) us) (EP X pins σ Q) X.xe s:=by
 have r2:Vals (vs ++ dvs) (us ++ ds):=r.append hd
 have hl:(us ++ ds).length=ps.length:=by rw[←r2.length];exact F.len _ _ _ _ q
 refine wpAny_call (codeAny_mono (F.run X.A X.stack s H ⟨us,[]⟩ (us ++ ds) (vs ++ dvs) Q (E σ) hr I.env0 (hb s us I.kIn hl) r2 q) fun r s' hq=>?_)
 match r,hq with
 |.error e,hq=>exact hx pins σ H s e s' I hq
 |.ok (.ret u),hq=>exact I.after hq
theorem W3 {ρ:List Addr} {H:Hp}:∀{dv:List W} {dvs:List V},Eg D.Fv dv=some dvs->RVs Θ ρ H dv dvs
 |[],_,h=>by cases h;exact .nil
 |w::ws,dvs,h=>by
  unfold Eg at h
  cases e1:D.Fv w with
  |none=>rw[e1] at h;cases h
  |some v=>
   cases e2:Eg D.Fv ws with
   |none=>rw[e1,e2] at h;cases h
   |some vs=>rw[e1,e2] at h;cases h;exact .cons (Ahi e1) (W3 e2)
theorem Ar5 {CX:CXT} {n:Nat} {fa:Addr} {fd:FuncData} {ps:List Str} {s:List W->M W} {df:Stmt} {cm:Bool} {x:Str} {dv:List W} {dvs:List V} {ds:List Value} {gs:De->M (List W)} (D:Ci X.K X.mg x df ps fa fd) (F:Ib X.prog X.w X.K X.mg X.base CX n fa fd ps (spF Θ s) cm)
  (hr:Ht n X.A cm) (hx:Fw CX X E) (hv:Eg _root_.D.Fv dv=some dvs) (hd:Vals dvs ds) (hb:Binds X.K fd ps ds) (ha:WA X (a::es) (tFs Θ E gs)) (hg:X.env.kindOf x=some .globalImplicit) (hdb:(x==("__debug__":Str))=false)
  (he:starEach (a::es) X.env=(false,eval a X.env)::starEach es X.env) (hpl:(backTo pos (starEach es X.env)).any (·.1)=false) :
  WE X (.Call (.Name x p) (a::es) [] pos) (tF Θ E (Ah (fun ws=>s (ws ++ dv)) gs)):=WE.weak ⟨Ac1 F hr hg D.gl D.fn.kp hb hd hx ha.un hdb he hpl⟩ fun σ H Q ⟨ρ,S,δ,R,sl,q⟩=>by
 refine⟨ρ,S,δ,R,sl,(Ax.seq (Rel:=RVs Θ) q).mono ?_⟩
 rintro vs H1 ⟨ρ1,S1,ws,p1,t1,R1,rvs,q1⟩
 exact⟨ρ1,S1,ws ++ dv,R1,rvs.append (W3 hv),q1⟩
theorem Adr {CX:CXT} {n:Nat} {fa:Addr} {fd:FuncData} {ps:List Str} {s:List W->M W} {df:Stmt} {cm:Bool} {x:Str} {dv:List W} {dvs:List V} {ds:List Value} (D:Ci X.K X.mg x df ps fa fd) (F:Ib X.prog X.w X.K X.mg X.base CX n fa fd ps (spF Θ s) cm)
  (hr:Ht n X.A cm) (hx:Fw CX X E) (hv:Eg _root_.D.Fv dv=some dvs) (hd:Vals dvs ds) (hb:Binds X.K fd ps ds) (hg:X.env.kindOf x=some .globalImplicit) (hdb:(x==("__debug__":Str))=false) :
  WE X (.Call (.Name x p) [] [] pos) (tF Θ E (Ah (fun ws=>s (ws ++ dv)) nilF)):=⟨fun pins s0 σ H Q I ⟨ρ,S,δ,R,sl,q⟩=>by
 refine wpAny_Call_Name_kw (Ov I hg D.gl ?_ hdb)
 refine PySem.W.callWith_K0 I.kIn D.fn.kp (Ar4 (us:=[]) (vs:=[]) F hr hb hd hx I .nil ?_)
 obtain⟨ρ1,S1,ws,p1,t1,R1,rvs,q3⟩:=Ax.seq (Rel:=RVs Θ) q ρ H [] (List.prefix_refl _) (Cu.refl _ _) R .nil
 cases rvs
 exact⟨ρ1,S1,dv,R1,W3 hv,q3⟩⟩
def Ahw (Γ:Gm) (f:Expr) (fr:Rd) (args:List Expr) (ars:List Rd) (kws:List Keyword) (cpos:Pos):De->M W:=
 match kws with
 |_::_=>Do
 |[]=>if !args.all noStar then Do else match f with
  |.Name x _=>if x==("__debug__":Str)||decide (x=("__name__":Str))||!decide (Γ.sc.names.lookup x=some .globalImplicit) then Do else
   match Γ.fn x with
   |some i=>if args.length=i.np then Ah i.g (vals ars) else if args.length+i.dv.length=i.np then Ah (fun ws=>i.g (ws ++ i.dv)) (vals ars) else Do
   |none=>if Γ.bi x&&!args.isEmpty then if x="isinstance" then Ah (Jq Γ.isa) (vals ars) else match Aq8 Γ.ns x with
     |some g=>if Γ.calm then Ah g (vals ars) else Do
     |none=>match Aq9 Γ.ns x with
      |some g=>Ah g (vals ars)
      |none=>Do
    else Do
  |.Attribute o name apos=>if Am3 o&&(apos.endLine==cpos.line) then
    match args with
    |[]=>Do
    |_::_=>if decide (args.length < 30) then match Arp name with
      |some (T,op)=>Ji T op fr.base (vals ars)
      |none=>Do
     else Do
   else Do
  |_=>Do
theorem Axg {env:Env} (h:(a::es).all noStar=true) (hl:(a::es).length < 30):((backTo cpos (starEach (a::es) env)).all (fun x=>!x.1)&&(backToKw cpos (keywordEach [] env)).all (fun x=>x.1.isSome)&&decide ((a::es).length+([]:List Keyword).length+(if ([]:List Keyword).isEmpty then 0 else 1) < 30))=true:=by
 rw[Adm h,Bool.true_and,Bool.and_eq_true]
 exact⟨rfl,decide_eq_true (by show (a::es).length+0+0 < 30;omega)⟩
theorem Anc {Γ:Gm} {fr:Rd} {ars:List Rd} {kws:List Keyword} (G:Γ.Ok Θ X E) (hf:Kl Θ X E f fr) (ha:G5 Θ X E es ars):WE X (.Call f es kws cpos) (tF Θ E (Ahw Γ f fr es ars kws cpos)):=by
 unfold Ahw
 split
 .exact Ck
 split
 .exact Ck
 rename_i hs0
 have hs:es.all noStar=true:=by
  cases h:es.all noStar
  .rw[h] at hs0;exact(hs0 rfl).elim
  .rfl
 have hv:=Ml ha hs
 split
 .rename_i x np
  split
  .exact Ck
  rename_i h0
  rw[Bool.or_eq_true,Bool.or_eq_true,not_or,not_or] at h0
  obtain⟨⟨h1,h2⟩,h3⟩:=h0
  have h1:=Bool.eq_false_iff.mpr h1
  have h2:=Bool.eq_false_iff.mpr h2
  have hg:X.env.kindOf x=some .globalImplicit:=by
   show X.env.scope.names.lookup x=_
   rw[G.sc]
   by_cases z:Γ.sc.names.lookup x=some .globalImplicit
   .exact z
   .rw[decide_eq_false z] at h3;exact(h3 rfl).elim
  split
  .rename_i i hfn
   obtain⟨n,fa,fd,ps,df,cm,D,F,hr,dvs,ds,hd1,hd2,hd3⟩:=G.fn x i hfn
   cases ha with
   |nil=>
    split
    .exact WE.weak (Adr D F hr G.ps (dv:=[]) rfl .nil D.bd hg h1) fun σ H Q q=>by
      have e:(fun ws=>i.g (ws ++ []))=i.g:=funext fun ws=>by rw[List.append_nil]
      rw[e];exact q
    .split
     .exact Adr D F hr G.ps hd1 hd2 hd3 hg h1
     .exact Ck
   |cons ha1 ha2=>
    rw[List.all_cons,Bool.and_eq_true] at hs
    split
    .exact Awd D F hr G.ps hv hg h1 (Jf hs.1) (Jb hs.2)
    .split
     .exact Ar5 D F hr G.ps hd1 hd2 hd3 hv hg h1 (Jf hs.1) (Jb hs.2)
     .exact Ck
  .split
   .rename_i hb
    rw[Bool.and_eq_true] at hb
    have hm:=G.bi x hb.1
    cases ha with
    |nil=>cases hb.2
    |cons ha1 ha2=>
    rw[List.all_cons,Bool.and_eq_true] at hs
    split
    .rename_i hx
     subst hx
     exact Bah G.hK G.isa hm hv hg (Jf hs.1) (Jb hs.2)
    split
    .rename_i g hbi
     split
     .rename_i hc
      rw[G.ns] at hbi
      exact Bcr G.hK (G.calm hc) hbi hm hv hg h2 h1 (Jf hs.1) (Jb hs.2)
     .exact Ck
    .split
     .rename_i g hty
      rw[G.ns] at hty
      exact Bcs G.hK hty hm hv hg h2 h1 (Jf hs.1) (Jb hs.2)
     .exact Ck
   .exact Ck
 .rename_i o name apos
  split
  .rename_i h0
   rw[Bool.and_eq_true] at h0
   have hb:=hf.base _ _ _ rfl
   split
   .exact Ck
   .rename_i a as
    split
    .rename_i hl
     split
     .rename_i T op hm
      have hs':=hs
      rw[List.all_cons,Bool.and_eq_true] at hs'
      exact Bcu hm hb hv (Ar0 h0.1) (Axg hs (of_decide_eq_true hl)) h0.2 (Jf hs'.1) (Jb hs'.2)
     .exact Ck
    .exact Ck
  .exact Ck
 .exact Ck
def Vr (Γ:Gm) (f:Expr) (args:List Expr) (ars:List Rd) (kws:List Keyword) (d:De->M Src):De->M Src:=match f,kws with
 |.Name x _,[]=>if x="range"∧Γ.bi "range"=true∧Γ.sc.names.lookup ("range":Str)=some .globalImplicit∧args.all noStar=true then match args with
   |[_]=>Lh Hq (vals ars)
   |[_,_]=>Lh At8 (vals ars)
   |_=>Do
  else d
 |_,_=>d
def W4 (Γ:Gm) (f:Expr) (args:List Expr) (ars:List Rd) (kws:List Keyword) (d:De->M Src):De->M Src:=match f,args,ars,kws with
 |.Name x _,[a,b],_,[]=>if x="zip"∧Γ.bi "zip"=true∧Γ.sc.names.lookup ("zip":Str)=some .globalImplicit∧noStar a=true∧noStar b=true then Aj1 (vals ars) else d
 |.Name x _,[a],[r],[⟨some k,.Constant (.int 1) _ _,_⟩]=>if x="enumerate"∧k="start"∧Γ.bi "enumerate"=true∧Γ.sc.names.lookup ("enumerate":Str)=some .globalImplicit∧noStar a=true then Ahq r.val else d
 |_,_,_,_=>d
theorem Ads {Γ:Gm} {ars:List Rd} {kws:List Keyword} {d:De->M Src} {elts:List Expr} {kt:Nat} {tpos:Pos} (G:Γ.Ok Θ X E) (ha:G5 Θ X E es ars) (hd:WI X (.Tuple elts kt tpos) (.Call f es kws cpos) (tFi Θ E d)):WI X (.Tuple elts kt tpos) (.Call f es kws cpos) (tFi Θ E (W4 Γ f es ars kws d)):=by
 unfold W4
 split
 .split
  .rename_i h
   obtain⟨rfl,hb,hg,s1,s2⟩:=h
   have hg:X.env.kindOf "zip"=some .globalImplicit:=by show X.env.scope.names.lookup _=_;rw[G.sc];exact hg
   exact Baj G.hK (G.bi _ hb) (Ml ha (by rw[List.all_cons,s1,List.all_cons,s2];rfl)) hg (Jf s1) (Jb (by rw[List.all_cons,s2];rfl))
  .exact hd
 .split
  .rename_i h
   obtain⟨rfl,rfl,hb,hg,s1⟩:=h
   have hg:X.env.kindOf "enumerate"=some .globalImplicit:=by show X.env.scope.names.lookup _=_;rw[G.sc];exact hg
   cases ha with|cons h1 _=>
   exact Aw2 (G.bi _ hb) h1.val hg (Jf s1)
  .exact hd
 .exact hd
theorem W5 {Γ:Gm} {ars:List Rd} {kws:List Keyword} {d:De->M Src} (G:Γ.Ok Θ X E) (ha:G5 Θ X E es ars) (hd:WI X tg (.Call f es kws cpos) (tFi Θ E d)):WI X tg (.Call f es kws cpos) (tFi Θ E (Vr Γ f es ars kws d)):=by
 unfold Vr
 split
 .rename_i x np
  split
  .rename_i h
   obtain⟨rfl,hb,hg,hs⟩:=h
   have hm:=G.bi _ hb
   have hg:X.env.kindOf "range"=some .globalImplicit:=by show X.env.scope.names.lookup _=_;rw[G.sc];exact hg
   have hv:=Ml ha hs
   split
   .rw[List.all_cons,Bool.and_eq_true] at hs
    exact Awo hm hv hg (Jf hs.1)
   .rw[List.all_cons,List.all_cons,Bool.and_eq_true,Bool.and_eq_true] at hs
    exact Awp hm hv hg (by rw[Jf hs.1,Jf hs.2.1];rfl) (Jf hs.2.1)
   .exact W2
  .exact hd
 .exact hd
def Aub (Γ:Gm) (f:Expr) (fr:Rd) (args:List Expr) (ars:List Rd) (kws:List Keyword) (cpos:Pos):Rd:=
 let v:=Ahw Γ f fr args ars kws cpos
 ⟨v,Az v,Do,Do,Do,Vr Γ f args ars kws (Eh Γ.ns v),W4 Γ f args ars kws (Vr Γ f args ars kws (Eh Γ.ns v))⟩
theorem Ar6 {Γ:Gm} {fr:Rd} {ars:List Rd} {kws:List Keyword} (G:Γ.Ok Θ X E) (hf:Kl Θ X E f fr) (ha:G5 Θ X E es ars):Kl Θ X E (.Call f es kws cpos) (Aub Γ f fr es ars kws cpos):=by
 have h:=Anc (kws:=kws) (cpos:=cpos) G hf ha
 have hsrc:∀tg,WI X tg (.Call f es kws cpos) (tFi Θ E (Eh Γ.ns (Ahw Γ f fr es ars kws cpos))):=fun tg=>by rw[G.ns];exact Adh G.hK h
 exact⟨h,Amt h (Aht rfl),fun _ _ _ _=>Ck,fun _ _ _ _=>Nm,fun _ _ _ _=>Nm,fun tg=>W5 G ha (hsrc tg),fun _ _ _=>Ads G ha (W5 G ha (hsrc _))⟩
def Nq (Γ:Gm) (x:Str):Option Nat:=if Afq Γ.sc x&&(Γ.fnB||decide (Γ.sc.names.lookup x=some .local)) then Af0 x Γ.N else none
theorem Vs {Γ:Gm} {x:Str} {i:Nat} (G:Γ.Ok Θ X E) (h:Nq Γ x=some i):X.N[i]?=some x∧Afq X.env.scope x=true∧(X.fn x||decide (X.env.scope.names.lookup x=some .local))=true:=by
 unfold Nq at h
 split at h
 .rename_i hc
  rw[Bool.and_eq_true,Bool.or_eq_true] at hc
  refine⟨by rw[G.N];exact Vq h,by rw[G.sc];exact hc.1,?_⟩
  rw[Bool.or_eq_true]
  rcases hc.2 with z|z
  .exact .inl (G.fnB z x)
  .exact .inr (by rw[G.sc];exact z)
 .cases h
def slotsOf (Γ:Gm):List Expr->Option (List Nat)
 |[]=>some []
 |.Name x _::es=>match Nq Γ x,slotsOf Γ es with
  |some i,some is=>some (i::is)
  |_,_=>none
 |_::_=>none
theorem Adt {Γ:Gm} (G:Γ.Ok Θ X E):∀{es:List Expr} {is:List Nat},slotsOf Γ es=some is->PGs X es (Ww is)∧(assignEach es X.env).length=is.length∧(assignEach es X.env).findIdx? (·.1)=none
 |[],is,h=>by cases h;exact⟨Ape,rfl,rfl⟩
 |.Name x np::es,is,h=>by
  unfold slotsOf at h
  split at h
  .rename_i i is' h1 h2
   cases h
   obtain⟨q1,q2,q3⟩:=Adt G h2
   obtain⟨s1,s2,s3⟩:=Vs G h1
   refine⟨Ala (Al8 (decide_eq_true G.nd) s1 s2 s3).un q1,?_,?_⟩
   .show (assignEach es X.env).length+1=is'.length+1
    rw[q2]
   .show List.findIdx? (·.1) ((false,assign (.Name x np) X.env)::assignEach es X.env)=none
    rw[List.findIdx?_cons]
    simp only[Bool.false_eq_true,if_false,q3,Option.map_none]
  .cases h
def tgt (Γ:Gm):Expr->Option Tg
 |.Name x _=>(Nq Γ x).map Cr
 |.Tuple es _ _=>if Γ.calm then (slotsOf Γ es).map Q5 else none
 |_=>none
def tgG (K:PySem.W.Frag) (Γ:Gm):Expr->TG
 |.Name x _=>K8 ((Nq Γ x).getD 0)
 |.Tuple es _ _=>Auy K ((slotsOf Γ es).getD []).length (Ww ((slotsOf Γ es).getD []))
 |_=>K8 0
theorem Af2 {Γ:Gm} {s:Tg} (G:Γ.Ok Θ X E) (h:tgt Γ tg=some s):WG X tg (tgG Θ.K Γ tg)∧GOk Θ s (tgG Θ.K Γ tg):=by
 unfold tgt at h
 split at h
 .obtain⟨i,h1,rfl⟩:=Option.map_eq_some_iff.mp h
  obtain⟨s1,s2,s3⟩:=Vs G h1
  simp only[tgG,h1,Option.getD_some]
  exact⟨Al8 (decide_eq_true G.nd) s1 s2 s3,Adg i⟩
 .split at h
  .rename_i hc
   obtain⟨is,h1,rfl⟩:=Option.map_eq_some_iff.mp h
   obtain⟨q1,q2,q3⟩:=Adt G h1
   simp only[tgG,h1,Option.getD_some]
   rw[←G.hK]
   exact⟨⟨Auz (G.calm hc) q1 q2 q3⟩,Ahm is rfl⟩
  .cases h
 .cases h
def Adu (out sc:Scope):Scope:=
 { sc with names:=sc.names.map fun(n,k)=>if (k==.free&&out.kind==.function&&out.names.lookup n==some .cell) then (n,.cell) else (n,k) }
def ownOf:Expr->List Str
 |.Name x _=>[x]
 |.Tuple es _ _=>es.filterMap fun e=>match e with
  |.Name x _=>some x
  |_=>none
 |_=>[]
def Zn (N:List Str) (sc:Scope):List Nat:=sc.names.filterMap fun(n,k)=>if k==.free then Af0 n N else none
def Gm.inner (Γ:Gm) (tg:Expr) (sc:Scope):Gm:={ Γ with N:=ownOf tg ++ (Zn Γ.N sc).map (fun j=>Γ.N.getD j ""),sc:=Adu Γ.sc sc,fnB:=false,rs:=false,loops:=false,tr:=false }
theorem Gm.Ok.inner {Γ:Gm} {scope:Scope} (G:Γ.Ok Θ X E) (nd:(Γ.inner tg scope).N.Nodup) (C:Addr) (s:Shared) (H:Hp) (ex:List Addr):(Γ.inner tg scope).Ok Θ (X.comp scope (ownOf tg) (Zn Γ.N scope) C s H ex) E0s where
 hK:=G.hK
 ns:=G.ns
 hu:=G.hu
 N:=by
  show ownOf tg ++ (Zn Γ.N scope).map (fun j=>X.N.getD j "")=_
  rw[G.N];rfl
 nd:=by
  show (ownOf tg ++ (Zn Γ.N scope).map (fun j=>X.N.getD j "")).Nodup
  rw[G.N];exact nd
 sc:=by
  show relabel scope X.env=Adu Γ.sc scope
  rw[←G.sc];rfl
 fn:=fun x g h=>G.fn x g h
 ps:=Ahe
 con:=G.con
 bi:=G.bi
 isa:=G.isa
 calm:=G.calm
 fnB:=fun z=>by cases z
 mdc:=G.mdc
def Auc:List Rd->De->M Bool
 |[]=>fun _=>pure true
 |[r]=>r.tst
 |_=>Do
theorem Adv:∀{es:List Expr} {rs:List Rd},G5 Θ X E es rs->WTs X es (tFb Θ E (Auc rs))
 |_,_,.nil=>⟨fun pins s σ H Q I ⟨ρ,S,δ,R,sl,q⟩=>Aqm.un pins s σ H Q I (Ax.now (Rel:=fun _ _ a b=>a=b) q R rfl)⟩
 |_,_,.cons h .nil=>Aqn h.tst
 |_,_,.cons _ (.cons _ _)=>⟨fun _ _ _ _ _ _ ⟨_,_,_,_,_,q⟩=>False.elim q⟩
def Ane (Γ:Gm) (tg iter:Expr) (isa:Int) (sc:Scope):Bool:=
 decide (isa=0)&&Γ.calm&&Zm iter&&decide (Γ.inner tg sc).N.Nodup&&decide (sc.kind=.function)&&sc.names.all (fun y=>decide (y.2≠.cell))&&
 (Zn Γ.N sc).all (fun j=>match Γ.N[j]? with|some x=>decide (sc.names.lookup x=some .free)|none=>false)&&
 sc.names.all (fun y=>!decide (y.2=.local)||decide (sc.names.lookup y.1=some .local))&&
 sc.names.all (fun y=>!decide (y.2=.free)||(decide (Γ.sc.names.lookup y.1=some .cell)||decide (Γ.sc.names.lookup y.1=some .free)))
def Abi (tg:Expr) (r:Rd):De->M Src:=match tg with
 |.Tuple _ _ _=>r.srcT
 |_=>r.src
theorem Sv {r:Rd} (h:Kl Θ X E e r):WI X tg e (tFi Θ E (Abi tg r)):=by
 unfold Abi
 split
 .exact h.srcT _ _ _
 .exact h.src _
def Adw (Γ:Gm) (tg iter:Expr) (isa:Int) (sc:Scope) (ri re:Rd) (rt:List Rd):De->M W:=
 if Ane Γ tg iter isa sc then match tgt (Γ.inner tg sc) tg with
  |some s=>Cy (ownOf tg).length (Zn Γ.N sc) (Abi tg ri) s (Auc rt) re.val
  |none=>Do
 else Do
theorem Ahx {K:PySem.W.Frag} {Γ:Gm} {s:Tg} (h:tgt Γ tg=some s):GOk Θ s (tgG K Γ tg):=by
 unfold tgt at h
 split at h
 .obtain⟨i,h1,rfl⟩:=Option.map_eq_some_iff.mp h
  simp only[tgG,h1,Option.getD_some]
  exact Adg i
 .split at h
  .obtain⟨is,h1,rfl⟩:=Option.map_eq_some_iff.mp h
   simp only[tgG,h1,Option.getD_some]
   exact Ahm is rfl
  .cases h
 .cases h
theorem Anf {Γ:Gm} {iter elt:Expr} {ifs:List Expr} {isa:Int} {scope:Scope} {ri re:Rd} {rt:List Rd} (G:Γ.Ok Θ X E) (hi:Kl Θ X E iter ri)
  (he:∀X' E',(Γ.inner tg scope).Ok Θ X' E'->Kl Θ X' E' elt re) (ht:∀X' E',(Γ.inner tg scope).Ok Θ X' E'->G5 Θ X' E' ifs rt) :
  WE X (.ListComp elt [⟨tg,iter,ifs,isa⟩] scope pos) (tF Θ E (Adw Γ tg iter isa scope ri re rt)):=by
 unfold Adw
 split
 .rename_i hb
  unfold Ane at hb
  simp only[Bool.and_eq_true] at hb
  obtain⟨⟨⟨⟨⟨⟨⟨⟨b1,b2⟩,b3⟩,b4⟩,b5⟩,b6⟩,b7⟩,b8⟩,b9⟩:=hb
  obtain rfl:=of_decide_eq_true b1
  have nd:=of_decide_eq_true b4
  split
  .rename_i s hs
   refine Awv (G.calm b2) G.sc (Sv hi) (fun C s' H ex=>(Af2 (G.inner nd C s' H ex) hs).1) (Ahx hs) (fun C s H ex=>Adv (ht _ _ (G.inner nd C s H ex))) (fun C s H ex=>(he _ _ (G.inner nd C s H ex)).val) (by rw[G.N];exact b7) (of_decide_eq_true b5) b6 b8 b9 (Abh b3)
  .exact Ck
 .exact Ck
end
def ifR (ns:List Int) (c a b:Rd):Rd:={ Rd.of ns (Ac9 c.tst a.val b.val) with tst:=Do }
def atR (Γ:Gm) (o:Expr) (f:Str) (r:Rd):Rd:={ Rd.of Γ.ns (Bao Γ o f r) with base:=r.val }
def Axh (lo hi:Option Rd) (st:Option Expr):Rd:=match st with
 |none=>{ Rd.no with lo:=Anb lo,hi:=Anb hi }
 |some _=>Rd.no
mutual
def ev:Expr->Gm->Rd
 |.Constant c _ _,Γ=>Rd.of Γ.ns (Am5 c)
 |.Name x _,Γ=>Rd.of Γ.ns (Am7 Γ x)
 |.BinOp a op b _,Γ=>Rd.of Γ.ns (Aw4 op (ev a Γ) (ev b Γ))
 |.UnaryOp op a _,Γ=>unR Γ.ns op (ev a Γ)
 |.BoolOp op vs _,Γ=>Aua Γ.ns op (evs vs Γ)
 |.Compare a ops bs _,Γ=>Aw8 Γ.ns ops bs (ev a Γ) (evs bs Γ)
 |.IfExp c a b _,Γ=>ifR Γ.ns (ev c Γ) (ev a Γ) (ev b Γ)
 |.Tuple es _ _,Γ=>Rd.of Γ.ns (Axa es (evs es Γ))
 |.List es _,Γ=>Rd.of Γ.ns (Axb es (evs es Γ))
 |.Dict ks vs _,Γ=>Rd.of Γ.ns (Ana (Axi ks Γ) (evs vs Γ))
 |.Call f args kws pos,Γ=>Aub Γ f (ev f Γ) args (evs args Γ) kws pos
 |.Attribute o f _,Γ=>atR Γ o f (ev o Γ)
 |.Subscript o i _,Γ=>Rd.of Γ.ns (subV Γ o i (ev o Γ) (ev i Γ))
 |.Slice lo hi st _,Γ=>Axh (evo lo Γ) (evo hi Γ) st
 |.ListComp elt [⟨tg,iter,ifs,isa⟩] sc _,Γ=>Rd.of Γ.ns (Adw Γ tg iter isa sc (ev iter Γ) (ev elt (Γ.inner tg sc)) (evs ifs (Γ.inner tg sc)))
 |_,_=>Rd.no
def evs:List Expr->Gm->List Rd
 |[],_=>[]
 |e::es,Γ=>ev e Γ::evs es Γ
def evo:Option Expr->Gm->Option Rd
 |none,_=>none
 |some e,Γ=>some (ev e Γ)
def Axi:List (Option Expr)->Gm->List (Option Rd)
 |[],_=>[]
 |e::es,Γ=>evo e Γ::Axi es Γ
end
section
variable {Θ:Th}
mutual
theorem Ew:∀(e:Expr) (Γ:Gm) (X:Cx) (E:L2.St->XK),Γ.Ok Θ X E->Kl Θ X E e (ev e Γ)
 |.Constant c _ _,Γ,X,E,G=>La G.hK G.ns Am6 rfl
 |.Name x _,Γ,X,E,G=>La G.hK G.ns (Ar1 G) rfl
 |.BinOp a op b _,Γ,X,E,G=>La G.hK G.ns (Aw5 G (Ew a Γ X E G) (Ew b Γ X E G)) rfl
 |.UnaryOp op a _,Γ,X,E,G=>Bam G (Ew a Γ X E G)
 |.BoolOp op vs _,Γ,X,E,G=>Ar2 G (Kv vs Γ X E G)
 |.Compare a ops bs _,Γ,X,E,G=>Aw9 G (Ew a Γ X E G) (Kv bs Γ X E G)
 |.IfExp c a b _,Γ,X,E,G=>O1 G.hK G.ns (Bci (Ew c Γ X E G).tst (Ew a Γ X E G).val (Ew b Γ X E G).val) Af1
 |.Tuple es _ _,Γ,X,E,G=>La G.hK G.ns (Axc (Kv es Γ X E G)) rfl
 |.List es _,Γ,X,E,G=>La G.hK G.ns (Axd (Kv es Γ X E G)) rfl
 |.Dict ks vs _,Γ,X,E,G=>La G.hK G.ns (Ar3 (Abj ks Γ X E G) (Kv vs Γ X E G)) rfl
 |.Call f args kws pos,Γ,X,E,G=>Ar6 G (Ew f Γ X E G) (Kv args Γ X E G)
 |.Attribute o f _,Γ,X,E,G=>
  have h:=Ew o Γ X E G
  have r:=La G.hK G.ns (Axf (f:=f) G h) rfl
  ⟨r.val,r.tst,fun _ _ _ e=>by cases e;exact h.val,r.lo,r.hi,r.src,r.srcT⟩
 |.Subscript o i _,Γ,X,E,G=>La G.hK G.ns (Axe G (Ew o Γ X E G) (Ew i Γ X E G)) rfl
 |.Slice lo hi none _,Γ,X,E,G=>⟨Ck,Af1,fun _ _ _ _=>Ck,fun _ _ _ e=>by cases e;exact Ang lo Γ X E G,fun _ _ _ e=>by cases e;exact Ang hi Γ X E G,fun _=>W2,fun _ _ _=>W2⟩
 |.Slice _ _ (some _) _,_,_,_,_=>Hs
 |.ListComp elt [⟨tg,iter,ifs,isa⟩] sc _,Γ,X,E,G=>La G.hK G.ns (Anf G (Ew iter Γ X E G) (fun X' E' G'=>Ew elt _ X' E' G') (fun X' E' G'=>Kv ifs _ X' E' G')) rfl
 |.ListComp _ [] _ _,_,_,_,_=>Hs
 |.ListComp _ (⟨_,_,_,_⟩::_::_) _ _,_,_,_,_=>Hs
 |.NamedExpr _ _ _,_,_,_,_=>Hs
 |.Lambda _ _ _ _,_,_,_,_=>Hs
 |.Set _ _ _,_,_,_,_=>Hs
 |.SetComp _ _ _ _,_,_,_,_=>Hs
 |.DictComp _ _ _ _ _,_,_,_,_=>Hs
 |.GeneratorExp _ _ _ _,_,_,_,_=>Hs
 |.Await _ _,_,_,_,_=>Hs
 |.Yield _ _,_,_,_,_=>Hs
 |.YieldFrom _ _,_,_,_,_=>Hs
 |.FormattedValue _ _ _ _,_,_,_,_=>Hs
 |.JoinedStr _ _,_,_,_,_=>Hs
 |.Starred _ _,_,_,_,_=>Hs
theorem Kv:∀(es:List Expr) (Γ:Gm) (X:Cx) (E:L2.St->XK),Γ.Ok Θ X E->G5 Θ X E es (evs es Γ)
 |[],_,_,_,_=>.nil
 |e::es,Γ,X,E,G=>.cons (Ew e Γ X E G) (Kv es Γ X E G)
theorem Ang:∀(e:Option Expr) (Γ:Gm) (X:Cx) (E:L2.St->XK),Γ.Ok Θ X E->WO X e (tFo Θ E (Anb (evo e Γ)))
 |none,_,_,_,_=>Amj
 |some e,Γ,X,E,G=>Awj (Ew e Γ X E G).val
theorem Abj:∀(es:List (Option Expr)) (Γ:Gm) (X:Cx) (E:L2.St->XK),Γ.Ok Θ X E->Np Θ X E es (Axi es Γ)
 |[],_,_,_,_=>.nil
 |none::es,Γ,X,E,G=>.none (Abj es Γ X E G)
 |some e::es,Γ,X,E,G=>.some (Ew e Γ X E G) (Abj es Γ X E G)
end
end
structure Gm.SOk (Θ:Th) (Γ:Gm) (X:Cx) (E:L2.St->XK):Prop where
 g:Γ.Ok Θ X E
 hp:Γ.loops=true->PassesOwn (model X.prog X.w) X.A X.env X.xe
 hf:∀x,X.fn x=true
 rs:Γ.rs=true->∃E1,E=(fun _=>E1)∧Raises X E1∧Vn X E1∧X.ex=[]
 exi:Γ.rs=true->∀x c dv,Γ.exi x=some (c,dv)->Θ.xf c=none∧Bai X (Θ.cl c) dv.length∧X.mg x=some (.ref (Θ.cl c))
 hcl:∀x k,Γ.hcl x=some k->X.mg x=some (.ref (Θ.cl k))
 exm:∀k c,Γ.exm k c=true->Θ.xf c=none∧PySem.W.exmOne Θ.K (.ref (Θ.cl c)) (.ref (Θ.cl k))=some true
 tr:Γ.tr=true->X.stack=X.env::X.outer∧X.env.frame=some X.env.locals
 exc:∀x c,Γ.exc x=some c->Θ.xf c=none∧Yj X.K (Θ.cl c)∧X.mg x=some (.ref (Θ.cl c))
def Nb:MS:=fun _ _=>.bad
def Bap:MS:=fun _ S=>.rt .non S
def Baq:MS:=fun δ S=>.bk δ S
def Aud:MS:=fun δ S=>.ct δ S
section
variable {Θ:Th} {X:Cx} {E:L2.St->XK} {st:Stmt} {sts:List Stmt} {pos:Pos} {v tg:Expr} {es:List Expr}
theorem Cd:WS X st (tS Θ E Nb):=⟨fun _ _ _ _ _ _ ⟨_,_,_,_,_,q⟩=>False.elim q⟩
theorem Ar7:WS X (.Pass pos) (tS Θ E Am):=WS.weak ⟨Apb⟩ fun D σ H ⟨ρ,S,δ,R,sl,q⟩=>q.nxt R sl
theorem Anh:WS X (.Break pos) (tS Θ E Baq):=WS.weak ⟨Ak9⟩ fun D σ H ⟨ρ,S,δ,R,sl,q⟩=>q ρ H σ (List.prefix_refl ρ) (Cu.refl ρ H) R sl
theorem Adx:WS X (.Continue pos) (tS Θ E Aud):=WS.weak ⟨Acq⟩ fun D σ H ⟨ρ,S,δ,R,sl,q⟩=>q ρ H σ (List.prefix_refl ρ) (Cu.refl ρ H) R sl
theorem Ar8:WS X (.Return none pos) (tS Θ E Bap):=WS.weak ⟨Apc⟩ fun D σ H ⟨ρ,S,δ,R,sl,q⟩=>q.ret R .non
theorem Ani {env:Env} {o i:Expr} {p:Pos} {n:Nat}:swapsWith v (some (.Subscript o i p)) n env=pure false:=by cases v <;> rfl
def Anj (Γ:Gm) (sc:Scope) (vp:Pos) (x:Str) (p:Pos):Bool:=((if Γ.sc.kind.isAnnotationScope then .function else Γ.sc.kind)==.function)&&(Γ.sc.names.lookup x==some .local)&&p.line==vp.line&&!(sc.names.any fun(n,k)=>n==x&&(k==.local||k==.cell))
theorem Ank {Γ:Gm} {elt:Expr} {gs:List Comprehension} {sc:Scope} {vp p:Pos} {x:Str} {n:Nat} (G:Γ.Ok Θ X E):swapsWith (.ListComp elt gs sc vp) (some (.Name x p)) n X.env=pure (Anj Γ sc vp x p):=by
 show pure _=_
 unfold Anj Env.blockKind Env.kindOf
 rw[G.sc]
 rfl
def Abk:Expr->Bool
 |.ListComp _ [_] _ _=>true
 |_=>false
theorem Ady (h:Abk v=true):∃elt tg iter ifs isa sc vp,v=.ListComp elt [⟨tg,iter,ifs,isa⟩] sc vp:=by
 unfold Abk at h
 split at h
 .rename_i elt c sc vp
  obtain⟨tg,iter,ifs,isa⟩:=c
  exact⟨elt,tg,iter,ifs,isa,sc,vp,rfl⟩
 .cases h
def Axj (Γ:Gm) (ts:List Expr) (v:Expr) (rv:Rd):MS:=match ts with
 |[.Name x _]=>if Abg v||Abk v then match Nq Γ x with
   |some i=>Bx i rv.val
   |none=>Nb
  else Nb
 |[.Subscript o i _]=>Wy (ev o Γ).val (ev i Γ).val rv.val
 |_=>Nb
theorem Adz {i:Nat}:WS X st (tS Θ E (Bx i Do)):=⟨fun _ _ _ _ _ _ ⟨_,_,_,_,_,q⟩=>False.elim q⟩
theorem Ar9 {Γ:Gm} {x:Str} {np vp:Pos} {i:Nat} {iter elt:Expr} {ifs:List Expr} {isa:Int} {scope:Scope} (G:Γ.SOk Θ X E) (hi:Nq Γ x=some i) (hsw:swapsWith (.ListComp elt [⟨tg,iter,ifs,isa⟩] scope vp) (some (.Name x np)) pos.line X.env=pure true) :
  WS X (.Assign [.Name x np] (.ListComp elt [⟨tg,iter,ifs,isa⟩] scope vp) pos) (tS Θ E (Bx i (Adw Γ tg iter isa scope (ev iter Γ) (ev elt (Γ.inner tg scope)) (evs ifs (Γ.inner tg scope))))):=by
 obtain⟨s1,s2,s3⟩:=Vs G.g hi
 unfold Adw
 split
 .rename_i hb
  unfold Ane at hb
  simp only[Bool.and_eq_true] at hb
  obtain⟨⟨⟨⟨⟨⟨⟨⟨b1,b2⟩,b3⟩,b4⟩,b5⟩,b6⟩,b7⟩,b8⟩,b9⟩:=hb
  obtain rfl:=of_decide_eq_true b1
  have nd:=of_decide_eq_true b4
  split
  .rename_i s hs
   exact Arz (G.g.calm b2) G.g.sc (Sv (Ew iter Γ X E G.g)) (fun C s' H ex=>(Af2 (G.g.inner nd C s' H ex) hs).1) (Ahx hs) (fun C s H ex=>Adv (Kv ifs _ _ _ (G.g.inner nd C s H ex))) (fun C s H ex=>(Ew elt _ _ _ (G.g.inner nd C s H ex)).val) (by rw[G.g.N];exact b7) (of_decide_eq_true b5) b6 b8 b9 (Abh b3)
    (Al8 (decide_eq_true G.g.nd) s1 s2 s3) hsw
  .exact Adz
 .exact Adz
theorem Asa {Γ:Gm} {ts:List Expr} (G:Γ.SOk Θ X E):WS X (.Assign ts v pos) (tS Θ E (Axj Γ ts v (ev v Γ))):=by
 have hv:=Ew v Γ X E G.g
 unfold Axj
 split
 .rename_i x np
  split
  .rename_i hn
   split
   .rename_i i hi
    obtain⟨s1,s2,s3⟩:=Vs G.g hi
    by_cases h1:Abg v=true
    .exact Amn hv.val (decide_eq_true G.g.nd) s1 s2 (Ahs h1) (G.hf _)
    .rw[Bool.or_eq_true] at hn
     obtain⟨elt,tg,iter,ifs,isa,sc,vp,rfl⟩:=Ady (hn.resolve_left h1)
     have sw:=Ank (elt:=elt) (gs:=[⟨tg,iter,ifs,isa⟩]) (sc:=sc) (vp:=vp) (p:=np) (x:=x) (n:=pos.line) G.g
     cases hB:Anj Γ sc vp x np with
     |false=>rw[hB] at sw;exact Amn hv.val (decide_eq_true G.g.nd) s1 s2 sw (G.hf _)
     |true=>rw[hB] at sw;exact Ar9 G hi sw
   .exact Cd
  .exact Cd
 .exact Ars G.g.hu (Ew _ Γ X E G.g).val (Ew _ Γ X E G.g).val hv.val Ani
 .exact Cd
def Axk (Γ:Gm) (tg iter:Expr) (b:MS):MS:=if Γ.calm&&Zm iter&&Γ.loops then match tgt Γ tg with
  |some s=>Vd (Abi tg (ev iter Γ)) s b
  |none=>Nb
 else Nb
theorem Asb {Γ:Gm} {iter:Expr} {body:List Stmt} {b:MS} (G:Γ.SOk Θ X E) (hb:WSs X body (tS Θ E b)):WS X (.For tg iter body [] pos) (tS Θ E (Axk Γ tg iter b)):=by
 unfold Axk
 split
 .rename_i hc
  rw[Bool.and_eq_true,Bool.and_eq_true] at hc
  split
  .rename_i s hs
   obtain⟨w,gk⟩:=Af2 G.g hs
   exact Awn (G.hp hc.2) G.g.hK (G.g.calm hc.1.1) (Sv (Ew _ Γ X E G.g)) w gk hb (Abh hc.1.2)
  .exact Cd
 .exact Cd
def Af3 (Γ:Gm) (x:Str) (args:List Expr):MS:=if Γ.rs&&Γ.calm&&!(x==("__debug__":Str))&&decide (Γ.sc.names.lookup x=some .globalImplicit)&&args.all noStar then match Γ.exc x with
  |some c=>Mi c (vals (evs args Γ))
  |none=>match Γ.exi x with
   |some (c,dv)=>Mj c dv (vals (evs args Γ))
   |none=>Nb
 else Nb
theorem Aj3 {Γ:Gm} {x:Str} {a:Expr} {np cpos:Pos} (G:Γ.SOk Θ X E):WS X (.Raise (some (.Call (.Name x np) (a::es) [] cpos)) none pos) (tS Θ E (Af3 Γ x (a::es))):=by
 unfold Af3
 split
 .rename_i hc
  simp only[Bool.and_eq_true] at hc
  obtain⟨⟨⟨⟨c1,c2⟩,c3⟩,c4⟩,c5⟩:=hc
  obtain⟨E1,rfl,hR,hRI,hex⟩:=G.rs c1
  have hv:=Ml (Kv (a::es) Γ X _ G.g) c5
  rw[List.all_cons,Bool.and_eq_true] at c5
  have hg:X.env.kindOf x=some .globalImplicit:=by show X.env.scope.names.lookup x=_;rw[G.g.sc];exact of_decide_eq_true c4
  split
  .rename_i c hx
   obtain⟨x1,x2,x3⟩:=G.exc x c hx
   exact Amu x1 x2 x3 (G.g.calm c2) hR hv hg (by simpa using c3) (Jf c5.1) (Jb c5.2)
  .split
   .rename_i c dv hx
    obtain⟨x1,x2,x3⟩:=G.exi c1 x c dv hx
    exact Ajy x1 hex x2 x3 (G.g.calm c2) hRI hv hg (by simpa using c3) (Jf c5.1) (Jb c5.2)
   .exact Cd
 .exact Cd
end
def Af4 (Γ:Gm) (exc cause:Option Expr):MS:=match exc,cause with
 |some (.Call (.Name x _) (a::es) [] _),none=>Af3 Γ x (a::es)
 |_,_=>Nb
theorem Aj4 {Θ:Th} {X:Cx} {E:L2.St->XK} {Γ:Gm} {exc cause:Option Expr} {pos:Pos} (G:Γ.SOk Θ X E):WS X (.Raise exc cause pos) (tS Θ E (Af4 Γ exc cause)):=by
 unfold Af4
 split
 .exact Aj3 G
 .exact Cd
def Bcy (Γ:Gm):Option Expr->MS
 |some e=>retS (ev e Γ).val
 |none=>Bap
def Anl (m:MS):List Stmt->MS
 |[]=>m
 |_::_=>Nb
def Bc8 (Γ:Gm) (tg:Expr) (op:Operator) (e:Expr):MS:=match tg with
 |.Name x _=>match Baf op,Nq Γ x with
  |some o,some i=>Bcv o i (ev e Γ).val
  |_,_=>Nb
 |_=>Nb
def Af5 (Γ:Gm) (c:De->M Bool) (b:MS):MS:=if Γ.loops then Fy c b Γ.fuel else Nb
def Gm.inTry (Γ:Gm):Gm:={ Γ with rs:=false,loops:=false,tr:=false }
def Gm.inSuite (Γ:Gm):Gm:={ Γ with rs:=false,loops:=false,tr:=false,calm:=false,fn:=fun _=>none }
theorem Gm.SOk.inTry {Θ:Th} {X:Cx} {E E':L2.St->XK} {Γ:Gm} {pn:List (Addr×Obj)} {xe:Value->Shared->Prop} (G:Γ.SOk Θ X E) (hp:Fw (CXo X.prog X.w) (X.tryB pn xe) E'):Γ.inTry.SOk Θ (X.tryB pn xe) E' where
 g:={ hK:=G.g.hK,ns:=G.g.ns,hu:=G.g.hu,N:=G.g.N,nd:=G.g.nd,sc:=G.g.sc,fn:=G.g.fn,ps:=hp,con:=G.g.con,bi:=G.g.bi,isa:=G.g.isa,calm:=G.g.calm,fnB:=G.g.fnB,mdc:=G.g.mdc }
 hp:=fun z=>by cases z
 hf:=G.hf
 rs:=fun z=>by cases z
 exi:=fun z=>by cases z
 hcl:=G.hcl
 exm:=G.exm
 tr:=fun z=>by cases z
 exc:=G.exc
theorem Gm.SOk.inSuite {Θ:Th} {X:Cx} {E:L2.St->XK} {Γ:Gm} (G:Γ.SOk Θ X E) (e:Addr):Γ.inSuite.SOk Θ (X.suite e) E0s where
 g:={ hK:=G.g.hK,ns:=G.g.ns,hu:=G.g.hu,N:=G.g.N,nd:=G.g.nd,sc:=G.g.sc,fn:=fun _ _ z=>(nomatch z),ps:=Ahe,con:=G.g.con,bi:=G.g.bi,isa:=G.g.isa,calm:=fun z=>(nomatch z),fnB:=G.g.fnB,mdc:=G.g.mdc }
 hp:=fun z=>by cases z
 hf:=G.hf
 rs:=fun z=>by cases z
 exi:=fun z=>by cases z
 hcl:=G.hcl
 exm:=G.exm
 tr:=fun z=>by cases z
 exc:=G.exc
def Axl (Γ:Gm) (t:Expr) (n:Str) (b su:MS) (ss:List Stmt):MS:=match t with
 |.Name x _=>if Γ.tr&&!(x==("__debug__":Str))&&decide (Γ.sc.names.lookup x=some .globalImplicit)&&decide (Γ.sc.names.lookup n=some .local)&&!ss.isEmpty then
  match Γ.hcl x,Af0 n Γ.N with
  |some k,some i=>Ajz (Γ.exm k) i b su
  |_,_=>Nb
  else Nb
 |_=>Nb
theorem Asc {Θ:Th} {X:Cx} {E:L2.St->XK} {Γ:Gm} {t:Expr} {n:Str} {b su:MS} {body ss:List Stmt} {hpos pos:Pos} (G:Γ.SOk Θ X E)
  (hb:∀(pn:List (Addr×Obj)) (xe:Value->Shared->Prop) (E':L2.St->XK),Fw (CXo X.prog X.w) (X.tryB pn xe) E'->WSs (X.tryB pn xe) body (tS Θ E' b)) (hs:∀e,WSs (X.suite e) ss (tS Θ E0s su)) :
  WS X (.Try body [.ExceptHandler (some t) (some n) ss hpos] [] [] pos) (tS Θ E (Axl Γ t n b su ss)):=by
 unfold Axl
 split
 .split
  rotate_left
  .exact Cd
  rename_i x np hc
  simp only[Bool.and_eq_true] at hc
  obtain⟨⟨⟨⟨c1,c2⟩,c3⟩,c4⟩,c5⟩:=hc
  obtain⟨t1,t2⟩:=G.tr c1
  split
  .rename_i k i hk hi
   cases ss with
   |nil=>cases c5
   |cons b0 ss=>exact Aw1 G.g.hK t1 t2 G.g.nd (G.hcl _ k hk) (fun c z=>G.exm k c z) hb hs (by rw[G.g.N];exact Vq hi) (by rw[G.g.sc];exact of_decide_eq_true c4) (by show X.env.scope.names.lookup _=_;rw[G.g.sc];exact of_decide_eq_true c3) (by simpa using c2)
  .exact Cd
 .exact Cd
def Anm (Γ:Gm) (e:Expr):MS:=if Abg e then M7 (ev e Γ).val else Nb
mutual
def evS:Stmt->Gm->MS
 |.Return e _,Γ=>Bcy Γ e
 |.Assign ts v _,Γ=>Axj Γ ts v (ev v Γ)
 |.If c A B _,Γ=>ifS (ev c Γ).tst (Dp A Γ) (Dp B Γ)
 |.While c b els _,Γ=>Anl (Af5 Γ (ev c Γ).tst (Dp b Γ)) els
 |.Try body [.ExceptHandler (some t) (some n) ss _] [] [] _,Γ=>Axl Γ t n (Dp body Γ.inTry) (Dp ss Γ.inSuite) ss
 |.For tg it b els _,Γ=>Anl (Axk Γ tg it (Dp b Γ)) els
 |.Expr e _,Γ=>Anm Γ e
 |.Raise exc cause _,Γ=>Af4 Γ exc cause
 |.Pass _,_=>Am
 |.Break _,_=>Baq
 |.Continue _,_=>Aud
 |_,_=>Nb
def Dp:List Stmt->Gm->MS
 |[],_=>Am
 |s::ss,Γ=>Ak (evS s Γ) (Dp ss Γ)
end
section
variable {Θ:Th}
mutual
theorem Axm:∀(st:Stmt) (Γ:Gm) (X:Cx) (E:L2.St->XK),Γ.SOk Θ X E->WS X st (tS Θ E (evS st Γ))
 |.Return (some e) _,Γ,X,E,G=>Awm (Ew e Γ X E G.g).val
 |.Return none _,_,_,_,_=>Ar8
 |.Assign ts v _,Γ,X,E,G=>Asa G
 |.If c A B _,Γ,X,E,G=>Bab (Ew c Γ X E G.g).tst (Ko A Γ X E G) (Ko B Γ X E G)
 |.While c b [] _,Γ,X,E,G=>by
  show WS X _ (tS Θ E (Af5 Γ (ev c Γ).tst (Dp b Γ)))
  unfold Af5
  split
  .rename_i h;exact Amo _ (G.hp h) (Ew c Γ X E G.g).tst (Ko b Γ X E G)
  .exact Cd
 |.While _ _ (_::_) _,_,_,_,_=>Cd
 |.For tg it b [] _,Γ,X,E,G=>Asb G (Ko b Γ X E G)
 |.For _ _ _ (_::_) _,_,_,_,_=>Cd
 |.Expr e _,Γ,X,E,G=>by
  show WS X _ (tS Θ E (Anm Γ e))
  unfold Anm
  split
  .rename_i h;exact Ard (Ew e Γ X E G.g).val (Ahs h)
  .exact Cd
 |.Raise exc cause _,Γ,X,E,G=>Aj4 G
 |.Pass _,_,_,_,_=>Ar7
 |.Break _,_,_,_,_=>Anh
 |.Continue _,_,_,_,_=>Adx
 |.FunctionDef _ _ _ _ _ _ _ _ _ _,_,_,_,_=>Cd
 |.AsyncFunctionDef _ _ _ _ _ _ _ _ _ _,_,_,_,_=>Cd
 |.ClassDef _ _ _ _ _ _ _ _ _ _ _,_,_,_,_=>Cd
 |.Delete _ _,_,_,_,_=>Cd
 |.TypeAlias _ _ _ _ _ _ _,_,_,_,_=>Cd
 |.AugAssign _ _ _ _,_,_,_,_=>Cd
 |.AnnAssign _ _ _ _ _,_,_,_,_=>Cd
 |.AsyncFor _ _ _ _ _,_,_,_,_=>Cd
 |.With _ _ _,_,_,_,_=>Cd
 |.AsyncWith _ _ _,_,_,_,_=>Cd
 |.Match _ _ _,_,_,_,_=>Cd
 |.Try body [.ExceptHandler (some t) (some n) ss _] [] [] _,Γ,X,E,G=>Asc G (fun pn xe E' hp=>Ko body _ _ _ (G.inTry hp)) fun e=>Ko ss _ _ _ (G.inSuite e)
 |.Try _ [] _ _ _,_,_,_,_=>Cd
 |.Try _ (.ExceptHandler none _ _ _::_::_) _ _ _,_,_,_,_=>Cd
 |.Try _ (.ExceptHandler (some _) none _ _::_::_) _ _ _,_,_,_,_=>Cd
 |.Try _ (.ExceptHandler (some _) (some _) _ _::_::_) _ _ _,_,_,_,_=>Cd
 |.Try _ [.ExceptHandler none _ _ _] _ _ _,_,_,_,_=>Cd
 |.Try _ [.ExceptHandler (some _) none _ _] _ _ _,_,_,_,_=>Cd
 |.Try _ [.ExceptHandler (some _) (some _) _ _] (_::_) _ _,_,_,_,_=>Cd
 |.Try _ [.ExceptHandler (some _) (some _) _ _] [] (_::_) _,_,_,_,_=>Cd
 |.TryStar _ _ _ _ _,_,_,_,_=>Cd
 |.Assert _ _ _,_,_,_,_=>Cd
 |.Import _ _,_,_,_,_=>Cd
 |.ImportFrom _ _ _ _,_,_,_,_=>Cd
 |.Global _ _,_,_,_,_=>Cd
 |.Nonlocal _ _,_,_,_,_=>Cd
theorem Ko:∀(sts:List Stmt) (Γ:Gm) (X:Cx) (E:L2.St->XK),Γ.SOk Θ X E->WSs X sts (tS Θ E (Dp sts Γ))
 |[],_,_,_,_=>Awl
 |s::ss,Γ,X,E,G=>Arc (Axm s Γ X E G) (Ko ss Γ X E G)
end
end
structure Md where
 con:Str->Option W
 bi:Str->Bool
 exc:Str->Option Nat
 isa:Nat->W->Option Bool
 ns:List Int
 fuel:Nat
 mdc:Str->Option (List (Str×Str))
 exi:Str->Option (Nat×List W)
 hcl:Str->Option Nat
 exm:Nat->Nat->Bool
def Md.gm (m:Md) (T:List (Str×Fi)) (N:List Str) (sc:Scope):Gm:=
 { N:=N,sc:=sc,fn:=fun x=>T.lookup x,con:=m.con,bi:=m.bi,exc:=m.exc,isa:=m.isa,ns:=m.ns,fuel:=m.fuel,calm:=true,fnB:=true,rs:=true,mdc:=m.mdc,exi:=m.exi,hcl:=m.hcl,exm:=m.exm,loops:=true,tr:=true }
structure Md.Ok (Θ:Th) (m:Md) (K:PySem.W.Frag) (mg:Str->Option Value):Prop where
 hK:K=Θ.K
 ns:m.ns=Θ.ns
 con:∀x w,m.con x=some w->∃v u,(∀ρ H,RV Θ ρ H w v)∧RelV v u∧(mg x=some u∨(mg x=none∧bootBuiltins x=some u))
 bi:∀x,m.bi x=true->mg x=none
 isa:Adl Θ m.isa
 exc:∀x c,m.exc x=some c->Θ.xf c=none∧Yj K (Θ.cl c)∧mg x=some (.ref (Θ.cl c))
 mdc:∀x D,m.mdc x=some D->∃a,Aj2 K a D∧mg x=some (.ref a)
 hcl:∀x k,m.hcl x=some k->mg x=some (.ref (Θ.cl k))
 exm:∀k c,m.exm k c=true->Θ.xf c=none∧PySem.W.exmOne Θ.K (.ref (Θ.cl c)) (.ref (Θ.cl k))=some true
def XiT (Θ:Th) (m:Md) (P:Program) (w:World) (K:PySem.W.Frag) (mg:Str->Option Value) (base:Heap) (k:Nat):Prop:=
 ∀x c dv,m.exi x=some (c,dv)->Θ.xf c=none∧mg x=some (.ref (Θ.cl c))∧∃(fI:Addr) (fd:FuncData) (ps:List Str) (dvs:List V) (ds:List Value),Aa5 K (Θ.cl c) fI=true∧PySem.W.keepIn K (.ref (Θ.cl c))=true∧PySem.W.typeIn K (.ref fI)=some (.type "function")∧
  Ib P w K mg base (CXo P w) k fI fd ps (Ajp (Θ.cl c)) true∧Binds K fd ps ds∧Vals dvs ds∧dvs.length=dv.length
def Tbl (Θ:Th) (P:Program) (w:World) (K:PySem.W.Frag) (mg:Str->Option Value) (base:Heap) (k:Nat) (T:List (Str×Fi)):Prop:=
 ∀x i,T.lookup x=some i->∃(fa:Addr) (fd:FuncData) (ps:List Str) (df:Stmt),Ci K mg x df ps fa fd∧Ib P w K mg base (CXo P w) k fa fd ps (spF Θ i.g) true∧∃dvs ds,Eg D.Fv i.dv=some dvs∧Vals dvs ds∧Binds K fd ps ds
section
variable {Θ:Th} {P:Program} {w:World} {K:PySem.W.Frag} {mg:Str->Option Value} {base:Heap} {m:Md} {T:List (Str×Fi)} {k j:Nat}
theorem Tbl.nil:Tbl Θ P w K mg base k []:=fun x i h=>by cases h
theorem Tbl.body {qual:Str} {sc:Scope} {f:Addr} {cdv:Value} {A:Around} {outer:List Env} {s:Shared} {H:Hp} {E:XK} {N:List Str} (hT:Tbl Θ P w K mg base k T) (hI:XiT Θ m P w K mg base j) (hj:j < k) (M:m.Ok Θ K mg) (nd:N.Nodup) (hr:Ht k (A.deeper (envOfC qual sc s.heap.objs.size f cdv)) true) :
  (m.gm T N sc).SOk Θ (P0 (CXo P w) P w K mg base N qual sc f cdv A outer s H E true) (fun _=>E) where
 g:={
  hK:=M.hK
  ns:=M.ns
  hu:=by have:=hr.un;show (A.deeper (envOfC qual sc s.heap.objs.size f cdv)).units+64 < cLine;omega
  N:=rfl
  nd:=nd
  sc:=rfl
  fn:=fun x i h=>by
   obtain⟨fa,fd,ps,df,D,F,z⟩:=hT x i h
   exact⟨k,fa,fd,ps,df,true,D,F,hr,z⟩
  ps:=Ajg
  con:=M.con
  bi:=M.bi
  isa:=M.isa
  calm:=fun _=>rfl
  fnB:=fun _ _=>rfl
  mdc:=M.mdc }
 hp:=fun _=>Ajw
 hf:=fun _=>rfl
 rs:=fun _=>⟨E,rfl,Ajf,Afv,rfl⟩
 exi:=fun _ x c dv h=>by
  obtain⟨h1,h2,fI,fd,ps,dvs,ds,q1,q2,q3,F,q5,q6,q7⟩:=hI x c dv h
  exact⟨h1,⟨fI,fd,ps,j,dvs,ds,q1,q2,q3,F,hr.mono hj,q5,q6,q7⟩,h2⟩
 hcl:=M.hcl
 exm:=M.exm
 tr:=fun _=>⟨rfl,rfl⟩
 exc:=M.exc
theorem Tbl.up (hT:Tbl Θ P w K mg base k T):Tbl Θ P w K mg base (k+1) T:=fun x i h=>by
 obtain⟨fa,fd,ps,df,D,F,z⟩:=hT x i h
 exact⟨fa,fd,ps,df,D,F.mono (Nat.le_succ k),z⟩
theorem Tbl.fn {x:Str} {st:Stmt} {N ps:List Str} {f:Addr} {fd:FuncData} {b:MS} (hT:Tbl Θ P w K mg base k T) (hI:XiT Θ m P w K mg base j) (hj:j < k) (M:m.Ok Θ K mg) (D:Ci K mg x st ps f fd) (Sc:Bg N ps (Ad st))
  (e:Dp (An st) (m.gm T N (Ad st))=b):Ib P w K mg base (CXo P w) (k+1) f fd ps (spF Θ (Df ps.length N.length b)) true:=by
 refine Bae D.fn Sc fun cdv A outer s H E hr=>?_
 rw[←e]
 exact Ko _ _ _ _ (hT.body hI hj M Sc.nd hr)
theorem Tbl.cons {x:Str} {st:Stmt} {N ps:List Str} {f:Addr} {fd:FuncData} {b:MS} {dv:List W} {dvs:List V} {ds:List Value} (hT:Tbl Θ P w K mg base k T) (hI:XiT Θ m P w K mg base j) (hj:j < k) (M:m.Ok Θ K mg) (D:Ci K mg x st ps f fd) (Sc:Bg N ps (Ad st))
  (hv:Eg _root_.D.Fv dv=some dvs) (hd:Vals dvs ds) (hb:Binds K fd ps ds) (e:Dp (An st) (m.gm T N (Ad st))=b):Tbl Θ P w K mg base (k+1) ((x,⟨Df ps.length N.length b,ps.length,dv⟩)::T):=fun y i h=>by
 rw[List.lookup_cons] at h
 split at h
 .rename_i ey
  have ey:y=x:=by simpa using ey
  subst ey
  cases h
  refine⟨f,fd,ps,st,D,?_,dvs,ds,hv,hd,hb⟩
  exact hT.fn hI hj M D Sc e
 .exact hT.up y i h
end
def Asd (K:PySem.W.Frag) (cl:Nat->Addr) (l:Addr) (ns:List Int):Th:=⟨K,cl,fun _=>none,l,ns⟩
def Ahy (K:PySem.W.Frag):Sp:=fun vs H Q _=>∃(l:Addr) (ns:List Int),vs=[.ref l]∧Scr (Asd K (fun _=>0) l ns) H∧ns.length≤63∧∀H',Q (.bl true) H'
theorem Ase {Θ:Th} {H:Hp}:Rep Θ [] [] H:=⟨rfl,List.nodup_nil,fun n a c h=>by simp at h⟩
theorem Axn {P:Program} {w:World} {K:PySem.W.Frag} {mg:Str->Option Value} {base:Heap} {k:Nat} {f:Addr} {fd:FuncData} {x:Str} {cl:Nat->Addr} {g:List Int->List W->M W} (law:∀ns:List Int,ns.length≤63->∃S',g ns [.scr] []=.ok (.bl true) S')
  (h:∀l ns,Ib P w K mg base (CXo P w) k f fd [x] (spF (Asd K cl l ns) (g ns))):Ib P w K mg base (CXo P w) k f fd [x] (Ahy K):=by
 refine⟨fun vs H Q E z=>?_,fun A outer s H args us vs Q E hr he hb hv z=>?_⟩
 .obtain⟨l,ns,rfl,_⟩:=z;rfl
 .obtain⟨l,ns,rfl,sc,hl,q⟩:=z
  obtain⟨S',e⟩:=law ns hl
  refine(h l ns).run A outer s H args us _ Q E hr he hb hv ⟨[],[],[.scr],Ase,.cons (.scr sc) .nil,?_⟩
  rw[e]
  intro ρ1 H1 v p1 t1 R1 rv
  cases rv
  exact q H1
theorem Ann {l:PySem.W.OpenLaw} {k:Nat} {q:Program} {loose:List Str} {XP:(Str->Option Value)->Heap->Prop} {YP:World->Heap->Prop} {d:DefRec} {K:Params->PySem.W.Frag} {x:Str} (hn:l.most=some 63) (hdf:d.params.defaults=[]) (hr:Ht k callerA)
  (hY:∀(w:World) (h:Heap),YP w h->(K w.params).In h)
  (F:∀(w:World) (mg:Str->Option Value) (fa:Addr) (h:Heap),(K w.params).In h->h.Ns mainGlobals mg->mg d.name=some (.ref fa)->
   ∃fd:FuncData,(∀(s:Shared) (u:Value),BindsTo s fd ⟨[u],[]⟩ [(x,u)])∧∀base:Heap,(K w.params).In base->base.Ns mainGlobals mg->Ib l.prog w (K w.params) mg base (CXo l.prog w) k fa fd [x] (Ahy (K w.params))) :
  PySem.W.WalkO q loose XP YP l.row.toRowW d [] (fun f vs=>PySem.call f vs):=
 L2.Apz (n:=63) (k:=k) (x:=x) (CX:=fun w=>CXo l.prog w) (sp:=fun w=>Ahy (K w.params)) hn (by decide) hdf hr hY F (fun w H a ns hl hO hS=>⟨a,ns,rfl,by
  rcases hS with (h|h)|h
  .rcases hO a with z|⟨o,xs,z⟩
   .rw[z] at h;cases h
   .rw[z] at h;cases h
  .exact .inl h
  .exact .inr h,hl,fun _=>rfl⟩) fun _ _ _ _ _ ⟨_,_,_,_,_,z⟩=>z
def AllP {α:Type} (P:Str->α->Prop):List (Str×α)->Prop
 |[]=>True
 |p::l=>P p.1 p.2∧AllP P l
theorem AllP.at {α:Type} {P:Str->α->Prop}:∀{L:List (Str×α)},AllP P L->∀x a,L.lookup x=some a->P x a
 |[],_,x,a,h=>by cases h
 |(y,b)::l,hp,x,a,h=>by
  rw[List.lookup_cons] at h
  split at h
  .rename_i e
   have e:x=y:=by simpa using e
   subst e;cases h;exact hp.1
  .exact AllP.at hp.2 x a h
def AllB (P:Str->Prop):List Str->Prop
 |[]=>True
 |p::l=>P p∧AllB P l
theorem AllB.at {P:Str->Prop}:∀{L:List Str},AllB P L->∀x,L.contains x=true->P x
 |[],_,x,h=>by simp at h
 |y::l,hp,x,h=>by
  rw[List.contains_cons,Bool.or_eq_true] at h
  rcases h with e|h
  .have e:x=y:=by simpa using e
   subst e;exact hp.1
  .exact AllB.at hp.2 x h
def Ano (Θ:Th) (mg:Str->Option Value) (x:Str) (w:W):Prop:=∃v u,(∀ρ H,RV Θ ρ H w v)∧RelV v u∧(mg x=some u∨(mg x=none∧bootBuiltins x=some u))
section
variable {Θ:Th} {mg:Str->Option Value} {x:Str}
theorem Ex {i:Int} {t:Tok} (h:mg x=some (.int i t)):Ano Θ mg x (.int i):=⟨.int i,_,fun _ _=>.int i,⟨t,rfl⟩,.inl h⟩
theorem Ahz {z:Str} {t:Tok} (h:mg x=some (.str z t)):Ano Θ mg x (.str z):=⟨.str z,_,fun _ _=>.str z,⟨t,rfl⟩,.inl h⟩
theorem Sw {n:String} (h:mg x=none) (hb:bootBuiltins x=some (.type n)):Ano Θ mg x (.ty n):=⟨.ty n,_,fun _ _=>.ty n,rfl,.inr ⟨h,hb⟩⟩
theorem Q7 {c:Nat} (h:mg x=some (.ref (Θ.cl c))):Ano Θ mg x (.cls c):=⟨.ref (Θ.cl c),_,fun _ _=>.cls c,rfl,.inl h⟩
end
def addrs (cs:List Addr) (c:Nat):Addr:=cs.getD c 0
def isB (o:Option (Option Value)) (n:String):Bool:=match o with
 |some (some (.builtin m))=>m==n
 |_=>false
theorem Abl {o:Option (Option Value)} {n:String} (h:isB o n=true):o=some (some (.builtin n)):=by
 unfold isB at h
 split at h
 .rw[eq_of_beq h]
 .cases h
def isN (o:Option (Option Value)):Bool:=match o with
 |some none=>true
 |_=>false
theorem Anp {o:Option (Option Value)} (h:isN o=true):o=some none:=by
 unfold isN at h
 split at h
 .rfl
 .cases h
def Anq (K:PySem.W.Frag) (C:Addr):Bool:=(PySem.W.clsIn K C).isSome&&isB (PySem.W.findIn K (.ref C) "__getattribute__") "BaseException.__getattribute__"&&isN (PySem.W.findIn K (.ref C) "__getattr__")&&
 isB (PySem.W.findIn K (.ref C) "__class__") "object.__class__"&&decide (PySem.W.mroIn K C (.type "BaseException")=some true)&&decide (PySem.W.mroIn K C (.type "object")=some true)
theorem Asf {K:PySem.W.Frag} {C:Addr} (h:Anq K C=true):Yk K C:=by
 unfold Anq at h
 simp only[Bool.and_eq_true,decide_eq_true_eq] at h
 obtain⟨⟨⟨⟨⟨a,b⟩,c⟩,d⟩,e⟩,f⟩:=h
 exact⟨a,Abl b,Anp c,Abl d,e,f⟩
def Af6 (v:Value) (n:String):Bool:=match v with
 |.type m=>m==n
 |_=>false
theorem Q8 {v:Value} {n:String} (h:Af6 v n=true):v=.type n:=by
 unfold Af6 at h
 split at h
 .rw[eq_of_beq h]
 .cases h
def refs (l:List Value):Bool:=l.all fun a=>match a with|.ref _=>true|_=>false
def Axo (n:Nat) (l:List Value):Bool:=refs (l.take n)&&(match l.drop n with
 |[a,b,c,d]=>Af6 a "ValueError"&&Af6 b "Exception"&&Af6 c "BaseException"&&Af6 d "object"
 |_=>false)
theorem Asg {n:Nat} {l:List Value} (h:Axo n l=true):∃own,l=own ++ Wg∧refs own=true:=by
 unfold Axo at h
 rw[Bool.and_eq_true] at h
 refine⟨l.take n,?_,h.1⟩
 have h2:=h.2
 split at h2
 .rename_i a b c d e
  simp only[Bool.and_eq_true] at h2
  obtain⟨⟨⟨q1,q2⟩,q3⟩,q4⟩:=h2
  rw[Q8 q1,Q8 q2,Q8 q3,Q8 q4] at e
  exact(List.take_append_drop n l).symm.trans (by rw[e])
 .cases h2
def xsB (K:PySem.W.Frag) (C:Addr) (f:Str):Bool:=(match PySem.W.clsIn K C with
 |some cd=>Axo (cd.mro.length - 4) cd.mro&&cd.hasDict
 |none=>false)&&isB (PySem.W.findIn K (.ref C) "__setattr__") "object.__setattr__"&&isN (PySem.W.findIn K (.ref C) f)&&decide (PySem.W.mroIn K C (.type "object")=some true)
theorem Bar {K:PySem.W.Frag} {C:Addr} {f:Str} (h:xsB K C f=true):XsK K C f:=by
 unfold xsB at h
 simp only[Bool.and_eq_true,decide_eq_true_eq] at h
 obtain⟨⟨⟨a,b⟩,c⟩,d⟩:=h
 refine⟨?_,Abl b,Anp c,d⟩
 split at a
 .rename_i cd e
  rw[Bool.and_eq_true] at a
  obtain⟨own,h1,h2⟩:=Asg a.1
  exact⟨cd,own,e,h1,h2,a.2⟩
 .cases a
def xbB (K:PySem.W.Frag) (B:Addr):Bool:=isB (PySem.W.specialIn K (.ref B) "__getattribute__") "type.__getattribute__"&&PySem.W.readsIn K B (.type "type")&&(match PySem.W.findCls K (.ref B) (.type "type") "__init__" with
 |some (.val (.builtin m))=>m=="ValueError.__init__"
 |_=>false)
theorem Bas {K:PySem.W.Frag} {B:Addr} (h:xbB K B=true):XbK K B:=by
 unfold xbB at h
 simp only[Bool.and_eq_true] at h
 obtain⟨⟨a,b⟩,c⟩:=h
 refine⟨Abl a,b,?_⟩
 split at c
 .rename_i m e
  rw[e,eq_of_beq c]
 .cases c
def Axp (K:PySem.W.Frag) (f:Addr):Bool:=match PySem.W.typeIn K (.ref f) with
 |some v=>Af6 v "function"
 |none=>false
theorem Ash {K:PySem.W.Frag} {f:Addr} (h:Axp K f=true):PySem.W.typeIn K (.ref f)=some (.type "function"):=by
 unfold Axp at h
 split at h
 .rename_i v e;rw[e,Q8 h]
 .cases h
def Ah0 (K:PySem.W.Frag) (cs:List Addr) (L:List (Nat×Nat×Bool)):Bool:=L.all fun t=>decide (PySem.W.kitOne K (.ref (addrs cs t.1)) (.ref (addrs cs t.2.1))=some t.2.2)
def Anr (K:PySem.W.Frag) (cs:List Addr) (L:List Nat):Bool:=L.all fun c=>Anq K (addrs cs c)&&decide (PySem.W.kitOne K (.ref (addrs cs c)) (.type "ValueError")=some true)
def Ans (N:List (Nat×Nat×Bool)) (L:List Nat) (c:Nat):W->Option Bool
 |.cls k=>if L.contains c then (N.find? fun t=>t.1==c&&t.2.1==k).map (·.2.2) else none
 |.ty n=>if n=="ValueError"&&L.contains c then some true else none
 |_=>none
theorem Axq {K:PySem.W.Frag} {cs:List Addr} {l:Addr} {ns:List Int} {N:List (Nat×Nat×Bool)} {L:List Nat} (h1:Ah0 K cs N=true) (h2:Anr K cs L=true):Adl (Asd K (addrs cs) l ns) (Ans N L):=⟨fun c k b h=>by
 have ek:∀c,L.contains c=true->Yk K (addrs cs c)∧PySem.W.kitOne K (.ref (addrs cs c)) (.type "ValueError")=some true:=fun c hc=>by
  have z:=List.all_eq_true.mp h2 c (by simpa using hc)
  rw[Bool.and_eq_true] at z
  exact⟨Asf z.1,of_decide_eq_true z.2⟩
 unfold Ans at h
 split at h
 .rename_i k
  split at h
  .rename_i hc
   obtain⟨t,ht,rfl⟩:=Option.map_eq_some_iff.mp h
   have hm:=List.mem_of_find?_eq_some ht
   have hp:=List.find?_some ht
   rw[Bool.and_eq_true] at hp
   have e1:t.1=c:=by simpa using hp.1
   have e2:t.2.1=k:=by simpa using hp.2
   have z:=of_decide_eq_true (List.all_eq_true.mp h1 t hm)
   rw[e1,e2] at z
   exact⟨rfl,(ek c hc).1,_,rfl,z⟩
  .cases h
 .split at h
  .rename_i n hc
   rw[Bool.and_eq_true] at hc
   have e:n="ValueError":=by simpa using hc.1
   subst e
   cases h
   exact⟨rfl,(ek c hc.2).1,_,rfl,(ek c hc.2).2⟩
  .cases h
 .cases h⟩
def Ah1 (K:PySem.W.Frag) (cs:List Addr) (L:List (Nat×Nat)):Bool:=L.all fun t=>decide (PySem.W.exmOne K (.ref (addrs cs t.2)) (.ref (addrs cs t.1))=some true)
theorem Axr {K:PySem.W.Frag} {cs:List Addr} {L:List (Nat×Nat)} (h:Ah1 K cs L=true) (k c:Nat) (hc:L.contains (k,c)=true):PySem.W.exmOne K (.ref (addrs cs c)) (.ref (addrs cs k))=some true:=
 of_decide_eq_true (List.all_eq_true.mp h (k,c) (by simpa using hc))
theorem Asi {K:PySem.W.Frag} {a:Addr} {D:List (Str×Str)} (h:KTD.tabLook (KTD.datLooks fun b=>K.lookup b) (fun b=>K.lookup b) a (D.map fun p=>(p.1,KTD.Dat.flat (.str p.2)))=true):Aj2 K a D:=fun hp x=>KTD.text_of_look (fun b o q=>x b o q) h
structure SP where
 p:Store->Prop
 st:∀S G:Store,p S->p (S ++ G)
def SP.any:SP:=⟨fun _=>True,fun _ _ h=>h⟩
def AtL (n:Nat) (ws:List W) (S:Store):Prop:=S[n]?=some (.lst ws)
theorem AtL.app {n:Nat} {ws:List W} {S:Store} (h:AtL n ws S) (G:Store):AtL n ws (S ++ G):=by
 unfold AtL at h ⊢
 rw[List.getElem?_append_left (List.getElem?_eq_some_iff.mp h).1]
 exact h
def SP.at (P:SP) (n:Nat) (ws:List W):SP:=⟨fun S=>P.p S∧AtL n ws S,fun S G h=>⟨P.st S G h.1,h.2.app G⟩⟩
def Pu {α:Type} (P:SP) (m:M α) (a:α):Prop:=∀S:Store,P.p S->∃G:Store,m S=.ok a (S ++ G)
def PuX {α:Type} (P:SP) (m:M α) (c:Nat×W):Prop:=∀S:Store,P.p S->∃G:Store,m S=.exc c (S ++ G)
def PuL (P:SP) (m:M W) (ws:List W):Prop:=∀S:Store,P.p S->∃(G:Store) (n:Nat),m S=.ok (.ref n) (S ++ G)∧(S ++ G)[n]?=some (.lst ws)∧S.length≤n
def PuN (P:SP) (b:MS) (δ δ':De):Prop:=∀S:Store,P.p S->∃G:Store,b δ S=.nx δ' (S ++ G)
def PuR (P:SP) (b:MS) (δ:De) (w:W):Prop:=∀S:Store,P.p S->∃G:Store,b δ S=.rt w (S ++ G)
def PuE (P:SP) (b:MS) (δ:De) (c:Nat×W):Prop:=∀S:Store,P.p S->∃(G:Store) (δ':De),b δ S=.ex c δ' (S ++ G)
section
variable {P:SP} {α β:Type} {m:M α} {f:α->M β} {a:α} {b:β} {c:Nat×W} {δ δ' δ1:De} {w x y z:W} {ws us:List W}
theorem Br (S:Store):(m >>= f) S=match m S with|.ok a S1=>f a S1|.exc c S1=>.exc c S1|.bad=>.bad:=rfl
theorem Pu.pure:Pu P (pure a:M α) a:=fun S _=>⟨[],by rw[List.append_nil];rfl⟩
theorem Pu.bind (h:Pu P m a) (k:Pu P (f a) b):Pu P (m >>= f) b:=fun S hS=>by
 obtain⟨G,e⟩:=h S hS
 obtain⟨G',e'⟩:=k (S ++ G) (P.st _ _ hS)
 exact⟨G ++ G',by rw[Br,e];simp only[e',List.append_assoc]⟩
theorem Pu.cast {a':α} (h:Pu P m a) (e:a=a'):Pu P m a':=e ▸ h
variable {P:SP} {f g h:De->M W} {gs:De->M (List W)} {t u:De->M Bool} {s:List W->M W} {i:Nat} {ns:List Int}
theorem Ae:Pu P (kF w δ) w:=Pu.pure
theorem Af (e:δ[i]?=some (some w)):Pu P (Ac i δ) w:=fun S _=>⟨[],by unfold Ac;rw[e,List.append_nil];rfl⟩
theorem Ag:Pu P (nilF δ) []:=Pu.pure
theorem Ab (h1:Pu P (f δ) w) (h2:Pu P (gs δ) ws):Pu P (Aa f gs δ) (w::ws):=h1.bind (h2.bind Pu.pure)
theorem Ai (h1:Pu P (gs δ) ws) (h2:Pu P (s ws) w):Pu P (Ah s gs δ) w:=h1.bind h2
theorem Al {o:Bop} (h1:Pu P (f δ) x) (h2:Pu P (g δ) y) (h3:Pu P (o.fn x y) z):Pu P (Ar o f g δ) z:=h1.bind (h2.bind h3)
theorem Ao {op:PySem.CmpOp} (h1:Pu P (f δ) x) (h2:Pu P (g δ) y) (h3:Pu P (Hw op x y) z):Pu P (Bc op f g δ) z:=h1.bind (h2.bind h3)
theorem Cj (h1:Pu P (f δ) (.bl true)) (h2:Pu P (g δ) w):Pu P (Gx f g δ) w:=h1.bind h2
theorem Zo (h1:Pu P (f δ) (.bl false)):Pu P (Gx f g δ) (.bl false):=h1.bind Pu.pure
theorem Axs {p q:Bool} (h1:Pu P (f δ) (.bl p)) (h2:p=true->Pu P (g δ) (.bl q)):Pu P (Gx f g δ) (.bl (p&&q)):=by
 cases p
 .exact Zo h1
 .exact Cj h1 (h2 rfl)
theorem Axt {p:Bool} (h1:Pu P (f δ) (.bl p)):Pu P (Ajr f δ) (.bl (!p)):=h1.bind Pu.pure
theorem Aj {p:Bool} (h1:Pu P (f δ) (.bl p)):Pu P (Az f δ) p:=h1.bind Pu.pure
theorem Kw (h1:Pu P (gs δ) ws) (hl:ws.length≤big):Pu P (Jh gs δ) (.tup ws):=h1.bind (by unfold Aa7;rw[if_pos hl];exact Pu.pure)
theorem Jr (h1:Pu P (gs δ) ws) (hl:ws.length≤big):PuL P (Jo gs δ) ws:=fun S hS=>by
 obtain⟨G,e⟩:=h1 S hS
 refine⟨G ++ [.lst ws],(S ++ G).length,?_,?_,by rw[List.length_append];omega⟩
 .unfold Jo;rw[Br,e]
  dsimp only
  unfold Bu
  rw[if_pos hl,List.append_assoc]
 .rw[←List.append_assoc,List.getElem?_append_right (Nat.le_refl _),Nat.sub_self];rfl
end
section
variable {P:SP} {b b':MS} {δ δ' δ1:De} {w:W} {c:Nat×W} {f:De->M W} {t:De->M Bool} {i k n:Nat} {gs:De->M (List W)} {ws:List W}
theorem Av:PuN P Am δ δ:=fun S _=>⟨[],by rw[List.append_nil];rfl⟩
theorem Nf (h1:PuN P b δ δ1) (h2:PuN P b' δ1 δ'):PuN P (Ak b b') δ δ':=fun S hS=>by
 obtain⟨G,e⟩:=h1 S hS
 obtain⟨G',e'⟩:=h2 (S ++ G) (P.st _ _ hS)
 exact⟨G ++ G',by unfold Ak;rw[e];simp only[e',List.append_assoc]⟩
theorem Ca (h1:PuN P b δ δ1) (h2:PuR P b' δ1 w):PuR P (Ak b b') δ w:=fun S hS=>by
 obtain⟨G,e⟩:=h1 S hS
 obtain⟨G',e'⟩:=h2 (S ++ G) (P.st _ _ hS)
 exact⟨G ++ G',by unfold Ak;rw[e];simp only[e',List.append_assoc]⟩
theorem Axu (h1:PuN P b δ δ1) (h2:PuE P b' δ1 c):PuE P (Ak b b') δ c:=fun S hS=>by
 obtain⟨G,e⟩:=h1 S hS
 obtain⟨G',δ2,e'⟩:=h2 (S ++ G) (P.st _ _ hS)
 exact⟨G ++ G',δ2,by unfold Ak;rw[e];simp only[e',List.append_assoc]⟩
theorem Bm (h1:PuR P b δ w):PuR P (Ak b b') δ w:=fun S hS=>by
 obtain⟨G,e⟩:=h1 S hS
 exact⟨G,by unfold Ak;rw[e]⟩
theorem Ah2 (h1:PuE P b δ c):PuE P (Ak b b') δ c:=fun S hS=>by
 obtain⟨G,δ2,e⟩:=h1 S hS
 exact⟨G,δ2,by unfold Ak;rw[e]⟩
theorem Bh (h:Pu P (f δ) w):PuN P (Bx i f) δ (δ.set i (some w)):=fun S hS=>by
 obtain⟨G,e⟩:=h S hS
 exact⟨G,by unfold Bx El;rw[e]⟩
theorem Bf (h:Pu P (f δ) w):PuR P (retS f) δ w:=fun S hS=>by
 obtain⟨G,e⟩:=h S hS
 exact⟨G,by unfold retS El;rw[e]⟩
theorem Ant {r:RS} {S S1:Store} (e:t δ S=.ok true S1) (h:b δ S1=r):ifS t b b' δ S=r:=by unfold ifS El;rw[e];exact h
theorem Bat {r:RS} {S S1:Store} (e:t δ S=.ok false S1) (h:b' δ S1=r):ifS t b b' δ S=r:=by unfold ifS El;rw[e];exact h
theorem Bau (h1:Pu P (t δ) true) (h2:PuN P b δ δ'):PuN P (ifS t b b') δ δ':=fun S hS=>by
 obtain⟨G,e⟩:=h1 S hS
 obtain⟨G',e'⟩:=h2 (S ++ G) (P.st _ _ hS)
 exact⟨G ++ G',Ant e (by rw[e',List.append_assoc])⟩
theorem Bav (h1:Pu P (t δ) false) (h2:PuN P b' δ δ'):PuN P (ifS t b b') δ δ':=fun S hS=>by
 obtain⟨G,e⟩:=h1 S hS
 obtain⟨G',e'⟩:=h2 (S ++ G) (P.st _ _ hS)
 exact⟨G ++ G',Bat e (by rw[e',List.append_assoc])⟩
theorem Baw (h1:Pu P (t δ) true) (h2:PuR P b δ w):PuR P (ifS t b b') δ w:=fun S hS=>by
 obtain⟨G,e⟩:=h1 S hS
 obtain⟨G',e'⟩:=h2 (S ++ G) (P.st _ _ hS)
 exact⟨G ++ G',Ant e (by rw[e',List.append_assoc])⟩
theorem Bax (h1:Pu P (t δ) true) (h2:PuE P b δ c):PuE P (ifS t b b') δ c:=fun S hS=>by
 obtain⟨G,e⟩:=h1 S hS
 obtain⟨G',δ2,e'⟩:=h2 (S ++ G) (P.st _ _ hS)
 exact⟨G ++ G',δ2,Ant e (by rw[e',List.append_assoc])⟩
theorem Aj5 (h:Pu P (gs δ) ws) (hl:ws.length≤big):PuE P (Mi k gs) δ (k,.non):=fun S hS=>by
 obtain⟨G,e⟩:=h S hS
 exact⟨G,δ,by unfold Mi El;rw[e];exact if_pos hl⟩
theorem Af7 {dv:List W} (h:Pu P (gs δ) ws) (hl:ws.length+dv.length=2):PuE P (Mj k dv gs) δ (k,(ws ++ dv).headD .non):=fun S hS=>by
 obtain⟨G,e⟩:=h S hS
 exact⟨G,δ,by unfold Mj El;rw[e];exact if_pos hl⟩
theorem Bq (hl:ws.length=k) (h:PuR P b (Bp n ws) w):Pu P (Df k n b ws) w:=fun S hS=>by
 obtain⟨G,e⟩:=h S hS
 exact⟨G,by unfold Df;rw[if_pos hl,e]⟩
theorem Ah3 (hl:ws.length=k) (h:PuE P b (Bp n ws) c):PuX P (Df k n b ws) c:=fun S hS=>by
 obtain⟨G,δ2,e⟩:=h S hS
 exact⟨G,by unfold Df;rw[if_pos hl,e]⟩
theorem Q9 {s:Tg}:PuN P (Lg s b []) δ δ:=fun S _=>⟨[],by rw[List.append_nil];rfl⟩
theorem J4 {s:Tg} {δ2:De} (hs:s w δ=some δ1) (h1:PuN P b δ1 δ2) (h2:PuN P (Lg s b ws) δ2 δ'):PuN P (Lg s b (w::ws)) δ δ':=fun S hS=>by
 obtain⟨G,e⟩:=h1 S hS
 obtain⟨G',e'⟩:=h2 (S ++ G) (P.st _ _ hS)
 exact⟨G ++ G',by unfold Lg;rw[hs];dsimp only;rw[e];dsimp only;rw[e',List.append_assoc]⟩
theorem Mm {s:Tg} {src:De->M Src} (h1:Pu P (src δ) (.fix ws)) (h2:PuN P (Lg s b ws) δ δ'):PuN P (Vd src s b) δ δ':=fun S hS=>by
 obtain⟨G,e⟩:=h1 S hS
 obtain⟨G',e'⟩:=h2 (S ++ G) (P.st _ _ hS)
 exact⟨G ++ G',by unfold Vd El;rw[e];dsimp only;rw[e',List.append_assoc]⟩
end
section
variable {P:SP} {δ:De} {cs:De} {t:De->M Bool} {e:De->M W} {f:W->W} {ws:List W}
theorem Nr {α:Type} {m:M α} {a:α} (h:Pu P m a):Pu P (noX m) a:=fun S hS=>by
 obtain⟨G,e⟩:=h S hS
 exact⟨G,by unfold noX;rw[e]⟩
theorem Ac5 {β:Type} {xs:List β} {φ ψ:β->W} (he:∀x,x∈xs->Pu P (t (some (φ x)::cs)) true∧Pu P (e (some (φ x)::cs)) (ψ x)):∀(d:Option W) (acc:List W),acc.length+xs.length≤big->Pu P (Hr (Cr 0) t e (xs.map φ) (d::cs) acc) (acc ++ xs.map ψ):=by
 induction xs with
 |nil=>intro d acc _ S _;exact⟨[],by simp[Hr];rfl⟩
 |cons x xs ih=>
  intro d acc hl
  rw[List.length_cons] at hl
  have h1:=(he x List.mem_cons_self)
  have h2:=ih (fun x' hx=>he x' (List.mem_cons_of_mem _ hx)) (some (φ x)) (acc ++ [ψ x]) (by rw[List.length_append,List.length_singleton];omega)
  rw[List.map_cons,List.map_cons]
  rw[List.append_assoc,List.singleton_append] at h2
  intro S hS
  have:=(Nr h1.1).bind (f:=fun b=>if b=true then noX (e (some (φ x)::cs)) >>= fun y=>if acc.length < big then Hr (Cr 0) t e (xs.map φ) (some (φ x)::cs) (acc ++ [y]) else bad else Hr (Cr 0) t e (xs.map φ) (some (φ x)::cs) acc) (b:=acc ++ ψ x::xs.map ψ) (by
   rw[if_pos rfl]
   refine(Nr h1.2).bind ?_
   rw[if_pos (by omega)]
   exact h2)
  exact this S hS
end
section
variable {P:SP} {δ:De} {t u:De->M Bool} {f g h:De->M W} {p q:Bool} {i j:Int} {x y z:Str} {ns:List Int} {w v o:W} {ws:List W} {k:Nat}
theorem Ef (h1:Pu P (t δ) p):Pu P (Mh t δ) (!p):=h1.bind Pu.pure
theorem Gy (h1:Pu P (t δ) p) (h2:Pu P (u δ) q):Pu P (orT t u δ) (p||q):=h1.bind (by
 cases p
 .rw[if_neg Bool.false_ne_true];exact h2
 .exact Pu.pure)
theorem Ah4 (h1:Pu P (t δ) p) (h2:Pu P (u δ) q):Pu P (Ams t u δ) (p&&q):=h1.bind (by
 cases p
 .exact Pu.pure
 .rw[if_pos rfl];exact h2)
theorem Abm (h1:Pu P (f δ) (.bl p)) (h2:Pu P (g δ) (.bl q)):Pu P (Gx f g δ) (.bl (p&&q)):=Axs h1 fun _=>h2
theorem Zq:Pu P (Hw .Lt (.int i) (.int j)) (.bl (decide (i < j))):=Pu.pure
theorem Lk:Pu P (Hw .LtE (.int i) (.int j)) (.bl (decide (i≤j))):=Pu.pure
theorem Ln:Pu P (Hw .Gt (.int i) (.int j)) (.bl (decide (j < i))):=Pu.pure
theorem Cm:Pu P (Bop.fn .add (.int i) (.int j)) (.int (i+j)):=Pu.pure
theorem Gr:Pu P (Bop.fn .sub (.int i) (.int j)) (.int (i - j)):=Pu.pure
theorem Kp {α:Type} {c:Prop} [Decidable c] {m n:M α} {a:α} (hc:c) (h:Pu P m a):Pu P (if c then m else n) a:=by rw[if_pos hc];exact h
theorem Bs (hl:x.length+y.length≤big):Pu P (Bop.fn .add (.str x) (.str y)) (.str (x ++ y)):=Kp hl Pu.pure
theorem Gs (hs:(small i||small j)=true):Pu P (Bop.fn .mul (.int i) (.int j)) (.int (i * j)):=Kp hs Pu.pure
theorem Af8 (hj:0≤j):Pu P (Bop.fn .shr (.int i) (.int j)) (.int (i / 2 ^ j.toNat)):=Kp hj Pu.pure
theorem Aj6:Pu P (Bop.fn .and (.int i) (.int j)) (.int (Builtin.bitAnd i j)):=Pu.pure
theorem Cp (hj:0 < j):Pu P (Bop.fn .mod (.int i) (.int j)) (.int (i % j)):=Kp hj Pu.pure
theorem Di (h1:0 < j) (h2:j < 1073741824):Pu P (Bop.fn .fdiv (.int i) (.int j)) (.int (i / j)):=Kp (by rw[decide_eq_true h1,decide_eq_true h2];rfl) Pu.pure
theorem Bay {k:Nat} (hk:k≤big):-(2 ^ 62)≤(k:Int)∧(k:Int) < 2 ^ 62:=by
 have h:(k:Int)≤1000000:=Int.ofNat_le.mpr hk
 have h2:(0:Int)≤k:=Int.natCast_nonneg k
 have e:(2:Int) ^ 62=4611686018427387904:=by decide +kernel
 rw[e]
 omega
theorem Anu (hk:k≤big):Hq [.int (k:Int)]=pure (.fix ((List.range k).map fun(k:Nat)=>W.int ((0:Int)+(k:Int)))):=by
 unfold Hq
 dsimp only
 rw[if_pos (Bay hk),Int.toNat_natCast]
theorem Hc {gs:De->M (List W)} (h1:Pu P (gs δ) [.int (k:Int)]) (hk:k≤big):Pu P (Lh Hq gs δ) (.fix ((List.range k).map fun(k:Nat)=>W.int ((0:Int)+(k:Int)))):=by
 refine Pu.bind h1 ?_
 rw[Anu hk]
 exact Pu.pure
theorem J5:Pu P (Hw .Eq (.int i) (.int j)) (.bl (i==j)):=fun S _=>⟨[],by rw[List.append_nil];rfl⟩
theorem Anv:Pu P (Hw .NotEq (.int i) (.int j)) (.bl (!(i==j))):=fun S _=>⟨[],by rw[List.append_nil];rfl⟩
theorem Ay (hx:PyData.strOk x=true) (hy:PyData.strOk y=true):Pu P (Hw .Eq (.str x) (.str y)) (.bl (x==y)):=Pu.pure
theorem Anw:Pu P (Hw .Eq (.str x) (.str y)) (.bl (x==y)):=Pu.pure
theorem W6:Pu P (Hw .NotEq (.str x) (.str y)) (.bl (!(x==y))):=Pu.pure
theorem Anx:Pu P (Hw .Lt (.str x) (.str y)) (.bl (Je x y)):=Pu.pure
theorem Nt {op op':CmpOp} {x y u:W} (h1:Pu P (f δ) x) (h2:Pu P (g δ) y) (h3:Pu P (Hw op x y) (.bl p)) (h4:Pu P (h δ) u) (h5:Pu P (Hw op' y u) (.bl q)):Pu P (J3 op op' f g h δ) (.bl (p&&q)):=by
 refine h1.bind (h2.bind (h3.bind ?_))
 cases p
 .exact Pu.pure
 .exact h4.bind h5
theorem Aw (h1:Pu P (f δ) o) (h2:Pu P (g δ) v) (h3:Pu P (ixW ns o v) w):Pu P (ixF ns f g δ) w:=h1.bind (h2.bind h3)
end
section
variable {P:SP} {b b':MS} {δ δ':De} {w:W} {c:Nat×W} {t:De->M Bool} {p:Bool}
theorem Dk (h1:Pu P (t δ) p) (hp:p=false) (h2:PuN P b' δ δ'):PuN P (ifS t b b') δ δ':=Bav (hp ▸ h1) h2
theorem Baz (h1:Pu P (t δ) p) (hp:p=true) (h2:PuN P b δ δ'):PuN P (ifS t b b') δ δ':=Bau (hp ▸ h1) h2
theorem Nu (h1:Pu P (t δ) p) (hp:p=true) (h2:PuR P b δ w):PuR P (ifS t b b') δ w:=Baw (hp ▸ h1) h2
theorem Ba0 (h1:Pu P (t δ) p) (hp:p=true) (h2:PuE P b δ c):PuE P (ifS t b b') δ c:=Bax (hp ▸ h1) h2
end
section
variable {P:SP} {δ cs:De} {f:De->M W} {ws:List W} {w:W} {ns:List Int} {op:List W->M W} {mop:W->List W->M W} {z:Str}
theorem Ah5 {m:M (List W)} (h:Pu P m ws) (hl:ws.length≤big):PuL P (m >>= Bu) ws:=fun S hS=>by
 obtain⟨G,e⟩:=h S hS
 refine⟨G ++ [.lst ws],(S ++ G).length,?_,?_,by rw[List.length_append];omega⟩
 .rw[Br,e]
  dsimp only
  unfold Bu
  rw[if_pos hl,List.append_assoc]
 .rw[←List.append_assoc,List.getElem?_append_right (Nat.le_refl _),Nat.sub_self];rfl
theorem Nv {α:Type} {m:M α} {a:α} {g:α->M W} (h:Pu P m a) (k:PuL P (g a) ws):PuL P (m >>= g) ws:=fun S hS=>by
 obtain⟨G,e⟩:=h S hS
 obtain⟨G',n,e',hn,hf⟩:=k (S ++ G) (P.st _ _ hS)
 exact⟨G ++ G',n,by rw[Br,e];simp only[e',List.append_assoc],by rw[←List.append_assoc];exact hn,by rw[List.length_append] at hf;omega⟩
theorem Ad0 {gs:De->M (List W)} {s:List W->M W} {us:List W} (h1:Pu P (gs δ) us) (h2:PuL P (s us) ws):PuL P (Ah s gs δ) ws:=Nv h1 h2
theorem Fl {β:Type} {xs:List β} {φ ψ:β->W} {cap:List Nat} {src:De->M Src} {t:De->M Bool} {e:De->M W} (h1:Pu P (src δ) (.fix (xs.map φ))) (hc:Li 1 cap δ=none::cs) (hl:xs.length≤big)
  (he:∀x,x∈xs->Pu P (t (some (φ x)::cs)) true∧Pu P (e (some (φ x)::cs)) (ψ x)):PuL P (Cy 1 cap src (Cr 0) t e δ) (xs.map ψ):=by
 refine Nv h1 ?_
 show PuL P (Hr (Cr 0) t e (xs.map φ) (Li 1 cap δ) [] >>= Bu) _
 rw[hc]
 refine Ah5 ?_ (by rw[List.length_map];exact hl)
 have:=Ac5 he none [] (by simpa using hl)
 simpa using this
theorem Abn (h:PuL P (f δ) ws) (ho:∀(n:Nat) (S:Store),S[n]?=some (.lst ws)->∃G,op [.ref n] S=.ok w (S ++ G)):Pu P (Ah op (Aa f nilF) δ) w:=fun S hS=>by
 obtain⟨G,n,e,hn,_⟩:=h S hS
 obtain⟨G',e'⟩:=ho n (S ++ G) hn
 refine⟨G ++ G',?_⟩
 unfold Ah Aa nilF
 rw[Br,Br,e]
 dsimp only
 rw[Br]
 show op [.ref n] (S ++ G)=_
 rw[e',List.append_assoc]
theorem Ah6:∀bs:List Bool,Eg Aq5 (bs.map W.bl)=some bs
 |[]=>rfl
 |b::bs=>by rw[List.map_cons,Eg,Ah6 bs];rfl
theorem Ad1:∀bs:List Int,Eg asInt (bs.map W.int)=some bs
 |[]=>rfl
 |b::bs=>by rw[List.map_cons,Eg,Ad1 bs];rfl
theorem W7:∀bs:List Str,Eg Adc (bs.map W.str)=some bs
 |[]=>rfl
 |b::bs=>by rw[List.map_cons,Eg,W7 bs];rfl
theorem Ny {bs:List Bool} (h:PuL P (f δ) (bs.map W.bl)):Pu P (Ah Ws (Aa f nilF) δ) (.bl (bs.all id)):=Abn h fun n S e=>⟨[],by
 simp only[Ws,e,Ah6,List.append_nil]⟩
theorem Any {is:List Int} (h:PuL P (f δ) (is.map W.int)):Pu P (Ah Abb (Aa f nilF) δ) (.int is.sum):=Abn h fun n S e=>⟨[],by
 simp only[Abb,e,Ad1,List.append_nil]⟩
theorem Asj {ys:List Str} (h:PuL P (f δ) (ys.map W.str)) (hl:(ys.map (·.length)).sum+ys.length * z.length≤big):Pu P (Ji .str J2 (kF (.str z)) (Aa f nilF) δ) (.str (Txt.join z ys)):=fun S hS=>by
 obtain⟨G,n,e,hn,_⟩:=h S hS
 refine⟨G,?_⟩
 have e2:Aa f nilF δ S=.ok [.ref n] (S ++ G):=by unfold Aa nilF;rw[Br,e];rfl
 have e3:Ji .str J2 (kF (.str z)) (Aa f nilF) δ S=(Aa f nilF δ >>= fun ws=>J2 (.str z) ws) S:=rfl
 rw[e3,Br,e2]
 simp only[J2,hn,W7]
 exact if_pos hl
theorem Ey (h:Pu P (f δ) (.tup ws)):Pu P (Eh ns f δ) (.fix ws):=h.bind Pu.pure
end
structure Ve {β:Type} (s:Tg) (xs:List β) (φ:β->W) (Kd:De->Prop) (dx:β->De):Prop where
 set:∀x,x∈xs->∀δ,Kd δ->s (φ x) δ=some (dx x)
 kd:∀x,x∈xs->Kd (dx x)
def Af9 (P:SP) {β:Type} (t:De->M Bool) (e:De->M W) (xs:List β) (dx:β->De) (τ:β->Bool) (ψ:β->W):Prop:=∀x,x∈xs->Pu P (t (dx x)) (τ x)∧(τ x=true->Pu P (e (dx x)) (ψ x))
section
variable {P:SP} {β:Type} {s:Tg} {t:De->M Bool} {e:De->M W} {xs:List β} {φ ψ:β->W} {Kd:De->Prop} {dx:β->De} {τ:β->Bool}
theorem Ra {cs:De}:Ve (Cr 0) xs φ (fun δ=>∃d,δ=d::cs) (fun x=>some (φ x)::cs):=⟨fun x _ δ ⟨d,h⟩=>by subst h;rfl,fun x _=>⟨_,rfl⟩⟩
theorem Abo {a b:β->W} {cs:De}:Ve (Q5 [0,1]) xs (fun x=>.tup [a x,b x]) (fun δ=>∃d d',δ=d::d'::cs) (fun x=>some (a x)::some (b x)::cs):=⟨fun x _ δ ⟨d,d',h⟩=>by subst h;rfl,fun x _=>⟨_,_,rfl⟩⟩
theorem Ve.tail {x:β} (h:Ve s (x::xs) φ Kd dx):Ve s xs φ Kd dx:=⟨fun y hy=>h.set y (List.mem_cons_of_mem _ hy),fun y hy=>h.kd y (List.mem_cons_of_mem _ hy)⟩
theorem Asl {x:β} {acc:List W} {k:List W->M (List W)} {r:List W} (h:Pu P (t (dx x)) (τ x)∧(τ x=true->Pu P (e (dx x)) (ψ x))) (hb:acc.length < big) (hk:Pu P (k (acc ++ ([x].filter τ).map ψ)) r) :
  Pu P (noX (t (dx x)) >>= fun b=>if b=true then noX (e (dx x)) >>= fun y=>if acc.length < big then k (acc ++ [y]) else bad else k acc) r:=by
 refine(Nr h.1).bind ?_
 cases ht:τ x with
 |false=>
  rw[if_neg Bool.false_ne_true]
  have:acc ++ ([x].filter τ).map ψ=acc:=by simp[ht]
  rw[this] at hk
  exact hk
 |true=>
  rw[if_pos rfl]
  refine(Nr (h.2 ht)).bind ?_
  rw[if_pos hb]
  have:acc ++ ([x].filter τ).map ψ=acc ++ [ψ x]:=by simp[ht]
  rw[this] at hk
  exact hk
theorem Aj7 {x:β} {acc:List W}:acc ++ ([x].filter τ).map ψ ++ (xs.filter τ).map ψ=acc ++ ((x::xs).filter τ).map ψ:=by
 cases ht:τ x <;> simp[ht]
theorem Anz {x:β} {acc:List W}:(acc ++ ([x].filter τ).map ψ).length≤acc.length+1:=by
 cases ht:τ x <;> simp[ht]
theorem Abp (hs:Ve s xs φ Kd dx) (he:Af9 P t e xs dx τ ψ):∀(δ:De) (acc:List W),Kd δ->acc.length+xs.length≤big->Pu P (Hr s t e (xs.map φ) δ acc) (acc ++ (xs.filter τ).map ψ):=by
 induction xs with
 |nil=>intro δ acc _ _;simpa [Hr] using (Pu.pure (a:=acc))
 |cons x xs ih=>
  intro δ acc hd hl
  rw[List.length_cons] at hl
  have hx:=he x List.mem_cons_self
  have hk:=ih hs.tail (fun y hy=>he y (List.mem_cons_of_mem _ hy)) (dx x) (acc ++ ([x].filter τ).map ψ) (hs.kd x List.mem_cons_self) (by have:=Anz (τ:=τ) (ψ:=ψ) (x:=x) (acc:=acc);omega)
  rw[Aj7] at hk
  rw[List.map_cons]
  unfold Hr
  rw[hs.set x List.mem_cons_self δ hd]
  exact Asl (k:=fun a=>Hr s t e (xs.map φ) (dx x) a) hx (by omega) hk
theorem Rb {n:Nat} (hs:Ve s xs φ Kd dx) (he:Af9 P t e xs dx τ ψ):∀(m i:Nat) (δ:De) (acc:List W) (S:Store),S[n]?=some (.lst (xs.map φ))->P.p S->i+m=xs.length+1->i≤xs.length->Kd δ->acc.length+(xs.length - i)≤big->
  ∃G,Fz s t e n m i δ acc S=.ok (acc ++ ((xs.drop i).filter τ).map ψ) (S ++ G):=by
 intro m
 induction m with
 |zero=>intro i δ acc S hn hS hi h2 hd hl;omega
 |succ m ih=>
  intro i δ acc S hn hS hi h2 hd hl
  unfold Fz
  simp only[hn]
  by_cases hx:i < xs.length
  .have hg:(xs.map φ)[i]?=some (φ xs[i]):=by rw[List.getElem?_map,List.getElem?_eq_getElem hx];rfl
   simp only[hg]
   have hm:xs[i]∈xs:=List.getElem_mem hx
   rw[hs.set _ hm δ hd]
   dsimp only
   have hb:acc.length < big:=by omega
   obtain⟨G1,e1⟩:=Nr (he _ hm).1 S hS
   rw[Br,e1]
   dsimp only
   have dr:xs.drop i=xs[i]::xs.drop (i+1):=(List.drop_eq_getElem_cons hx)
   cases ht:τ xs[i] with
   |false=>
    rw[if_neg Bool.false_ne_true]
    obtain⟨G,e2⟩:=ih (i+1) (dx xs[i]) acc (S ++ G1) (by rw[List.getElem?_append_left (List.getElem?_eq_some_iff.mp hn).1];exact hn) (P.st _ _ hS) (by omega) (by omega) (hs.kd _ hm) (by omega)
    refine⟨G1 ++ G,?_⟩
    rw[e2,dr,List.filter_cons,ht,List.append_assoc]
    rfl
   |true=>
    rw[if_pos rfl]
    obtain⟨G2,e2⟩:=Nr ((he _ hm).2 ht) (S ++ G1) (P.st _ _ hS)
    rw[Br,e2]
    dsimp only
    rw[if_pos hb]
    obtain⟨G,e3⟩:=ih (i+1) (dx xs[i]) (acc ++ [ψ xs[i]]) (S ++ G1 ++ G2) (by rw[List.append_assoc,List.getElem?_append_left (List.getElem?_eq_some_iff.mp hn).1];exact hn) (P.st _ _ (P.st _ _ hS)) (by omega) (by omega) (hs.kd _ hm) (by rw[List.length_append,List.length_singleton];omega)
    refine⟨G1 ++ (G2 ++ G),?_⟩
    rw[e3,dr,List.filter_cons,ht]
    simp[List.append_assoc]
  .have hg:(xs.map φ)[i]?=none:=by rw[List.getElem?_eq_none_iff,List.length_map];omega
   simp only[hg]
   refine⟨[],?_⟩
   rw[List.drop_eq_nil_of_le (by omega)]
   simp
theorem Aga {gt:Store->Nat->Option (Option W)} (hs:Ve s xs φ Kd dx) (he:Af9 P t e xs dx τ ψ):∀(m i:Nat) (δ:De) (acc:List W) (S:Store),(∀(G:Store) (j:Nat),gt (S ++ G) j=some (xs[j]?.map φ))->P.p S->xs.length+1≤i+m->i≤xs.length->Kd δ->acc.length+(xs.length - i)≤big->
  ∃G,Jk s t e gt m i δ acc S=.ok (acc ++ ((xs.drop i).filter τ).map ψ) (S ++ G):=by
 intro m
 induction m with
 |zero=>intro i δ acc S hn hS hi h2 hd hl;omega
 |succ m ih=>
  intro i δ acc S hn hS hi h2 hd hl
  unfold Jk
  have hn0:=hn [] i
  rw[List.append_nil] at hn0
  by_cases hx:i < xs.length
  .have hg:gt S i=some (some (φ xs[i])):=by rw[hn0,List.getElem?_eq_getElem hx];rfl
   simp only[hg]
   have hm:xs[i]∈xs:=List.getElem_mem hx
   rw[hs.set _ hm δ hd]
   dsimp only
   have hb:acc.length < big:=by omega
   obtain⟨G1,e1⟩:=Nr (he _ hm).1 S hS
   rw[Br,e1]
   dsimp only
   have dr:xs.drop i=xs[i]::xs.drop (i+1):=(List.drop_eq_getElem_cons hx)
   cases ht:τ xs[i] with
   |false=>
    rw[if_neg Bool.false_ne_true]
    obtain⟨G,e2⟩:=ih (i+1) (dx xs[i]) acc (S ++ G1) (fun G j=>by rw[List.append_assoc];exact hn _ j) (P.st _ _ hS) (by omega) (by omega) (hs.kd _ hm) (by omega)
    refine⟨G1 ++ G,?_⟩
    rw[e2,dr,List.filter_cons,ht,List.append_assoc]
    rfl
   |true=>
    rw[if_pos rfl]
    obtain⟨G2,e2⟩:=Nr ((he _ hm).2 ht) (S ++ G1) (P.st _ _ hS)
    rw[Br,e2]
    dsimp only
    rw[if_pos hb]
    obtain⟨G,e3⟩:=ih (i+1) (dx xs[i]) (acc ++ [ψ xs[i]]) (S ++ G1 ++ G2) (fun G j=>by rw[List.append_assoc,List.append_assoc];exact hn _ j) (P.st _ _ (P.st _ _ hS)) (by omega) (by omega) (hs.kd _ hm) (by rw[List.length_append,List.length_singleton];omega)
    refine⟨G1 ++ (G2 ++ G),?_⟩
    rw[e3,dr,List.filter_cons,ht]
    simp[List.append_assoc]
  .have hg:gt S i=some none:=by rw[hn0,List.getElem?_eq_none (by omega)];rfl
   simp only[hg]
   refine⟨[],?_⟩
   rw[List.drop_eq_nil_of_le (by omega)]
   simp
end
section
variable {P:SP} {β:Type} {s:Tg} {t:De->M Bool} {e:De->M W} {xs:List β} {φ ψ:β->W} {Kd:De->Prop} {dx:β->De} {τ:β->Bool} {k:Nat} {cap:List Nat} {δ:De} {src:De->M Src} {n:Nat} {f:De->M W} {op:List W->M W} {w:W} {ws:List W}
theorem Agb {m:M (List W)} {S G:Store} (h:m S=.ok ws (S ++ G)) (hl:ws.length≤big):∃(G':Store) (n:Nat),(m >>= Bu) S=.ok (.ref n) (S ++ G')∧AtL n ws (S ++ G')∧S.length≤n:=by
 refine⟨G ++ [.lst ws],(S ++ G).length,?_,?_,by rw[List.length_append];omega⟩
 .rw[Br,h]
  dsimp only
  unfold Bu
  rw[if_pos hl,List.append_assoc]
 .unfold AtL
  rw[←List.append_assoc,List.getElem?_append_right (Nat.le_refl _),Nat.sub_self];rfl
theorem Vt (h1:Pu P (src δ) (.fix (xs.map φ))) (hs:Ve s xs φ Kd dx) (he:Af9 P t e xs dx τ ψ) (hk:Kd (Li k cap δ)) (hl:xs.length≤big):PuL P (Cy k cap src s t e δ) ((xs.filter τ).map ψ):=by
 refine Nv h1 ?_
 refine Ah5 (m:=Hr s t e (xs.map φ) (Li k cap δ) []) ?_ (by rw[List.length_map];exact Nat.le_trans (List.length_filter_le _ _) hl)
 have:=Abp hs he (Li k cap δ) [] hk (by simpa using hl)
 simpa using this
theorem Abq (h0:∀S,P.p S->AtL n (xs.map φ) S) (h1:Pu P (src δ) (.liv n)) (hs:Ve s xs φ Kd dx) (he:Af9 P t e xs dx τ ψ) (hk:Kd (Li k cap δ)) (hl:xs.length≤big):PuL P (Cy k cap src s t e δ) ((xs.filter τ).map ψ):=fun S hS=>by
 obtain⟨G,e1⟩:=h1 S hS
 have hS1:=(h0 S hS).app G
 obtain⟨G2,e2⟩:=Rb (n:=n) hs he (xs.length+1) 0 (Li k cap δ) [] (S ++ G) hS1 (P.st _ _ hS) (by omega) (by omega) hk (by simpa using hl)
 rw[List.nil_append,List.drop_zero] at e2
 obtain⟨G',n',e3,h3,h4⟩:=Agb e2 (by rw[List.length_map];exact Nat.le_trans (List.length_filter_le _ _) hl)
 refine⟨G ++ G',n',?_,by rw[←List.append_assoc];exact h3,by rw[List.length_append] at h4;omega⟩
 unfold Cy
 rw[Br,e1]
 dsimp only
 unfold AtL at hS1
 rw[hS1]
 dsimp only
 rw[List.length_map,e3,List.append_assoc]
theorem Asm {us vs:List W} (h1:∀S,P.p S->∃G n m,src δ S=.ok (.zl n m) (S ++ G)∧AtL n us (S ++ G)∧AtL m vs (S ++ G)) (hx:∀j:Nat,xs[j]?.map φ=match us[j]?,vs[j]? with|some a,some b=>some (.tup [a,b])|_,_=>none) (hu:xs.length≤us.length)
  (hs:Ve s xs φ Kd dx) (he:Af9 P t e xs dx τ ψ) (hk:Kd (Li k cap δ)) (hl:xs.length≤big):PuL P (Cy k cap src s t e δ) ((xs.filter τ).map ψ):=fun S hS=>by
 obtain⟨G,n,m,e1,a1,a2⟩:=h1 S hS
 obtain⟨G2,e2⟩:=Aga (gt:=zlG n m) hs he (us.length+1) 0 (Li k cap δ) [] (S ++ G) (fun G' j=>by
  have b1:=a1.app G'
  have b2:=a2.app G'
  unfold AtL at b1 b2
  unfold zlG
  rw[b1,b2]
  dsimp only
  rw[hx j]
  cases us[j]? <;> cases vs[j]? <;> rfl) (P.st _ _ hS) (by omega) (by omega) hk (by simpa using hl)
 rw[List.nil_append,List.drop_zero] at e2
 obtain⟨G',n',e3,h3,h4⟩:=Agb e2 (by rw[List.length_map];exact Nat.le_trans (List.length_filter_le _ _) hl)
 refine⟨G ++ G',n',?_,by rw[←List.append_assoc];exact h3,by rw[List.length_append] at h4;omega⟩
 unfold Cy
 rw[Br,e1]
 dsimp only
 unfold AtL at a1
 rw[a1]
 dsimp only
 rw[e3,List.append_assoc]
end
def Ad2 (P:SP) (b:MS) (δ:De) (i:Nat) (ws:List W):Prop:=∀S:Store,P.p S->∃(G:Store) (n:Nat),b δ S=.nx (δ.set i (some (.ref n))) (S ++ G)∧AtL n ws (S ++ G)∧S.length≤n
def Ym (P:SP) (b:MS) (δ:De) (ws:List W):Prop:=∀S:Store,P.p S->∃(G:Store) (n:Nat),b δ S=.rt (.ref n) (S ++ G)∧AtL n ws (S ++ G)∧S.length≤n
section
variable {P:SP} {b b':MS} {δ δ1:De} {i k n:Nat} {ws us:List W} {f:De->M W} {t:De->M Bool} {p:Bool}
theorem W8 (h:PuL P (f δ) ws):Ad2 P (Bx i f) δ i ws:=fun S hS=>by
 obtain⟨G,n,e,hn,hf⟩:=h S hS
 exact⟨G,n,by unfold Bx El;rw[e],hn,hf⟩
theorem Hd (h:Ad2 P b δ i ws):Ad2 P (Ak b Am) δ i ws:=fun S hS=>by
 obtain⟨G,n,e,hn,hf⟩:=h S hS
 exact⟨G,n,by unfold Ak;rw[e];rfl,hn,hf⟩
theorem Agc (h1:Pu P (t δ) p) (hp:p=true) (h2:Ad2 P b δ i ws):Ad2 P (ifS t b b') δ i ws:=fun S hS=>by
 subst hp
 obtain⟨G,e⟩:=h1 S hS
 obtain⟨G',n,e',hn,hf⟩:=h2 (S ++ G) (P.st _ _ hS)
 exact⟨G ++ G',n,Ant e (by rw[e',List.append_assoc]),by rw[←List.append_assoc];exact hn,by rw[List.length_append] at hf;omega⟩
theorem Mp (h1:Pu P (t δ) p) (hp:p=false) (h2:Ad2 P b' δ i ws):Ad2 P (ifS t b b') δ i ws:=fun S hS=>by
 subst hp
 obtain⟨G,e⟩:=h1 S hS
 obtain⟨G',n,e',hn,hf⟩:=h2 (S ++ G) (P.st _ _ hS)
 exact⟨G ++ G',n,Bat e (by rw[e',List.append_assoc]),by rw[←List.append_assoc];exact hn,by rw[List.length_append] at hf;omega⟩
theorem Sx (h:PuL P (f δ) ws):Ym P (retS f) δ ws:=fun S hS=>by
 obtain⟨G,n,e,hn,hf⟩:=h S hS
 exact⟨G,n,by unfold retS El;rw[e],hn,hf⟩
theorem Js (h:Ym P b δ ws):Ym P (Ak b b') δ ws:=fun S hS=>by
 obtain⟨G,n,e,hn,hf⟩:=h S hS
 exact⟨G,n,by unfold Ak;rw[e],hn,hf⟩
theorem Ky (h1:PuN P b δ δ1) (h2:Ym P b' δ1 ws):Ym P (Ak b b') δ ws:=fun S hS=>by
 obtain⟨G,e⟩:=h1 S hS
 obtain⟨G',n,e',hn,hf⟩:=h2 (S ++ G) (P.st _ _ hS)
 exact⟨G ++ G',n,by unfold Ak;rw[e];simp only[e',List.append_assoc],by rw[←List.append_assoc];exact hn,by rw[List.length_append] at hf;omega⟩
theorem Ba1 (h1:Ad2 P b δ i ws) (h2:∀n,Ym (P.at n ws) b' (δ.set i (some (.ref n))) us):Ym P (Ak b b') δ us:=fun S hS=>by
 obtain⟨G,n,e,hn,hf⟩:=h1 S hS
 obtain⟨G',n',e',hn',hf'⟩:=h2 n (S ++ G) ⟨P.st _ _ hS,hn⟩
 exact⟨G ++ G',n',by unfold Ak;rw[e];simp only[e',List.append_assoc],by rw[←List.append_assoc];exact hn',by rw[List.length_append] at hf';omega⟩
theorem Agd (h1:Pu P (t δ) p) (hp:p=true) (h2:Ym P b δ ws):Ym P (ifS t b b') δ ws:=fun S hS=>by
 subst hp
 obtain⟨G,e⟩:=h1 S hS
 obtain⟨G',n,e',hn,hf⟩:=h2 (S ++ G) (P.st _ _ hS)
 exact⟨G ++ G',n,Ant e (by rw[e',List.append_assoc]),by rw[←List.append_assoc];exact hn,by rw[List.length_append] at hf;omega⟩
theorem Ah7 (hl:us.length=k) (h:Ym P b (Bp n us) ws):PuL P (Df k n b us) ws:=fun S hS=>by
 obtain⟨G,m,e,hn,hf⟩:=h S hS
 exact⟨G,m,by unfold Df;rw[if_pos hl,e],hn,hf⟩
theorem Abr {ns:List Int} (h0:∀S,P.p S->AtL n ws S) (h:Pu P (f δ) (.ref n)):Pu P (Eh ns f δ) (.liv n):=fun S hS=>by
 obtain⟨G,e⟩:=h S hS
 refine⟨G,?_⟩
 have a:=(h0 S hS).app G
 unfold AtL at a
 unfold Eh
 rw[Br,e]
 show (match (S ++ G)[n]? with|some (.lst _)=>R.ok (Src.liv n) (S ++ G)|_=>.bad)=_
 rw[a]
theorem Ad3 {ns:List Int} (hl:ws.length≤big):PuL P (Zh ns [.tup ws]) ws:=fun S _=>⟨[.lst ws],S.length,by
 show Bu ws S=_
 unfold Bu
 rw[if_pos hl],by rw[List.getElem?_append_right (Nat.le_refl _),Nat.sub_self];rfl,Nat.le_refl _⟩
end
section
variable {P:SP} {β:Type} {s:Tg} {t:De->M Bool} {e:De->M W} {xs:List β} {φ ψ:β->W} {Kd:De->Prop} {dx:β->De} {τ:β->Bool} {k:Nat} {cap:List Nat} {δ:De} {src:De->M Src} {f:De->M W} {ns:List Int}
theorem An0 (h1:∀S,P.p S->∃G n,src δ S=.ok (.liv n) (S ++ G)∧AtL n (xs.map φ) (S ++ G)) (hs:Ve s xs φ Kd dx) (he:Af9 P t e xs dx τ ψ) (hk:Kd (Li k cap δ)) (hl:xs.length≤big):PuL P (Cy k cap src s t e δ) ((xs.filter τ).map ψ):=fun S hS=>by
 obtain⟨G,n,e1,hS1⟩:=h1 S hS
 obtain⟨G2,e2⟩:=Rb (n:=n) hs he (xs.length+1) 0 (Li k cap δ) [] (S ++ G) hS1 (P.st _ _ hS) (by omega) (by omega) hk (by simpa using hl)
 rw[List.nil_append,List.drop_zero] at e2
 obtain⟨G',n',e3,h3,h4⟩:=Agb e2 (by rw[List.length_map];exact Nat.le_trans (List.length_filter_le _ _) hl)
 refine⟨G ++ G',n',?_,by rw[←List.append_assoc];exact h3,by rw[List.length_append] at h4;omega⟩
 unfold Cy
 rw[Br,e1]
 dsimp only
 unfold AtL at hS1
 rw[hS1]
 dsimp only
 rw[List.length_map,e3,List.append_assoc]
theorem Asn {ws:List W} (h:PuL P (f δ) ws):∀S,P.p S->∃G n,Eh ns f δ S=.ok (.liv n) (S ++ G)∧AtL n ws (S ++ G):=fun S hS=>by
 obtain⟨G,n,e,hn,_⟩:=h S hS
 refine⟨G,n,?_,hn⟩
 unfold Eh
 rw[Br,e]
 show (match (S ++ G)[n]? with|some (.lst _)=>R.ok (Src.liv n) (S ++ G)|_=>.bad)=_
 rw[hn]
theorem Ad4 {c:De->M Bool} {g:De->M W} {ws:List W} {p:Bool} (h1:Pu P (c δ) p) (hp:p=true) (h2:PuL P (f δ) ws):PuL P (Ac9 c f g δ) ws:=by
 subst hp
 exact Nv h1 h2
theorem Ad5 {c:De->M Bool} {g:De->M W} {ws:List W} {p:Bool} (h1:Pu P (c δ) p) (hp:p=false) (h2:PuL P (g δ) ws):PuL P (Ac9 c f g δ) ws:=by
 subst hp
 exact Nv h1 h2
end
def Wm {α:Type} (m:M α) (S:Store) (Q:α->Store->Prop):Prop:=∃(a:α) (S':Store),m S=.ok a S'∧Q a S'
structure Wb (b:MS) (δ:De) (S:Store) (K:RS->Prop):Prop where
 un:K (b δ S)
structure Fr (L:List Nat) (S S':Store):Prop where
 len:S.length≤S'.length
 get:∀i,i < S.length->i∉L->S'[i]?=S[i]?
section
variable {L L':List Nat} {S S1 S2 G:Store} {i n:Nat} {c:Cell}
theorem Fr.app:Fr [] S (S ++ G):=⟨by rw[List.length_append];omega,fun i hi _=>List.getElem?_append_left hi⟩
theorem Fr.set:Fr [n] S (S.set n c):=⟨by rw[List.length_set];exact Nat.le_refl _,fun i _ hi=>List.getElem?_set_ne (fun e=>hi (by rw[e];exact List.mem_singleton.mpr rfl))⟩
theorem Fr.trans (h1:Fr L S S1) (h2:Fr L' S1 S2) (hL:∀i∈L',i∈L∨S.length≤i):Fr L S S2:=⟨Nat.le_trans h1.len h2.len,fun i hi hn=>by
 rw[h2.get i (Nat.lt_of_lt_of_le hi h1.len) (fun hm=>(hL i hm).elim hn (fun z=>absurd hi (Nat.not_lt.mpr z))),h1.get i hi hn]⟩
theorem Fr.then0 (h1:Fr L S S1) (h2:Fr [] S1 S2):Fr L S S2:=h1.trans h2 fun _ h=>(nomatch h)
theorem Fr.same (h1:Fr L S S1) (h2:Fr L S1 S2):Fr L S S2:=h1.trans h2 fun _ h=>.inl h
theorem Fr.mono (h:Fr L S S1) (hL:∀i∈L,i∈L'):Fr L' S S1:=⟨h.len,fun i hi hn=>h.get i hi (fun z=>hn (hL i z))⟩
theorem Fr.of0 (h:Fr [] S S1):Fr L S S1:=h.mono fun _ h=>(nomatch h)
theorem Fr.at (h:Fr L S S1) (e:S[i]?=some c) (hi:i∉L):S1[i]?=some c:=(h.get i (List.getElem?_eq_some_iff.mp e).1 hi).trans e
theorem Fr.at0 (h:Fr [] S S1) (e:S[i]?=some c):S1[i]?=some c:=h.at e (fun z=>nomatch z)
theorem Fr.at1 (h:Fr [n] S S1) (e:S[i]?=some c) (hi:i≠n):S1[i]?=some c:=h.at e (fun z=>hi (List.mem_singleton.mp z))
theorem Dy (e:S[i]?=some c):i < S.length:=(List.getElem?_eq_some_iff.mp e).1
theorem Qf (h:i < S.length):(S.set i c)[i]?=some c:=List.getElem?_set_self h
end
section
variable {α β:Type} {m:M α} {f:α->M β} {a:α} {S:Store} {Q Q2:α->Store->Prop} {Q':β->Store->Prop} {P:SP} {δ:De} {ws us:List W}
theorem Cz (h:Wm m S fun a S'=>Wm (f a) S' Q'):Wm (m >>= f) S Q':=by
 obtain⟨a,S1,e,b,S2,e2,q⟩:=h
 exact⟨b,S2,by rw[Br,e];exact e2,q⟩
theorem Jt (q:Q a S):Wm (pure a) S Q:=⟨a,S,rfl,q⟩
theorem J6 (h:Pu P m a) (hS:P.p S) (k:∀S',Fr [] S S'->Q a S'):Wm m S Q:=by
 obtain⟨G,e⟩:=h S hS
 exact⟨a,_,e,k _ .app⟩
theorem Bw (h:Pu SP.any m a) (k:∀S',Fr [] S S'->Q a S'):Wm m S Q:=J6 h trivial k
theorem Dj (h:Wm m S Q) (k:∀a S',Q a S'->Q2 a S'):Wm m S Q2:=by
 obtain⟨a,S',e,q⟩:=h
 exact⟨a,S',e,k a S' q⟩
theorem Abs {m:M W} {Q:W->Store->Prop} (h:PuL P m ws) (hS:P.p S) (k:∀n S',Fr [] S S'->S'[n]?=some (.lst ws)->S.length≤n->Q (.ref n) S'):Wm m S Q:=by
 obtain⟨G,n,e,hn,hf⟩:=h S hS
 exact⟨_,_,e,k n _ .app hn hf⟩
theorem Abt (h:Wm m S Q):Wm (noX m) S Q:=by
 obtain⟨a,S',e,q⟩:=h
 exact⟨a,S',by unfold noX;rw[e],q⟩
theorem Dz {s:List W->M W} {gs:De->M (List W)} {Q:W->Store->Prop} (h:Wm (gs δ) S fun ws S'=>Wm (s ws) S' Q):Wm (Ah s gs δ) S Q:=Cz h
theorem Bl {g:De->M W} {gs:De->M (List W)} {Q:List W->Store->Prop} (h:Wm (g δ) S fun w S'=>Wm (gs δ) S' fun ws S2=>Q (w::ws) S2):Wm (Aa g gs δ) S Q:=
 Cz (Dj h fun _ _ h=>Cz (Dj h fun _ _ q=>Jt q))
theorem Dg {Q:List W->Store->Prop} (q:Q [] S):Wm (nilF δ) S Q:=Jt q
theorem Ei {i:Nat} {w:W} {Q:W->Store->Prop} (e:δ[i]?=some (some w)) (q:Q w S):Wm (Ac i δ) S Q:=⟨w,S,by unfold Ac;rw[e];rfl,q⟩
theorem Ih {w:W} {Q:W->Store->Prop} (q:Q w S):Wm (kF w δ) S Q:=Jt q
theorem Ga {o:Bop} {f g:De->M W} {Q:W->Store->Prop} (h:Wm (f δ) S fun x S1=>Wm (g δ) S1 fun y S2=>Wm (o.fn x y) S2 Q):Wm (Ar o f g δ) S Q:=Cz (Dj h fun _ _ h=>Cz h)
theorem Age {o:CmpOp} {f g:De->M W} {Q:W->Store->Prop} (h:Wm (f δ) S fun x S1=>Wm (g δ) S1 fun y S2=>Wm (Hw o x y) S2 Q):Wm (Bc o f g δ) S Q:=Cz (Dj h fun _ _ h=>Cz h)
theorem Aue {ns:List Int} {f g:De->M W} {Q:W->Store->Prop} (h:Wm (f δ) S fun x S1=>Wm (g δ) S1 fun y S2=>Wm (ixW ns x y) S2 Q):Wm (ixF ns f g δ) S Q:=Cz (Dj h fun _ _ h=>Cz h)
theorem Vu {f:De->M W} {Q:Bool->Store->Prop} {p:Bool} (h:Wm (f δ) S fun x S1=>x=.bl p∧Q p S1):Wm (Az f δ) S Q:=Cz (Dj h fun _ _ ⟨e,q⟩=>by subst e;exact Jt q)
theorem Aso {t:De->M Bool} {Q:Bool->Store->Prop} (h:Wm (t δ) S fun p S1=>Q (!p) S1):Wm (Mh t δ) S Q:=Cz (Dj h fun _ _ q=>Jt q)
theorem W9 {gs:De->M (List W)} {Q:W->Store->Prop} (h:Wm (gs δ) S fun ws S1=>ws.length≤big∧Q (.ref S1.length) (S1 ++ [.lst ws])):Wm (Jo gs δ) S Q:=Cz (Dj h fun ws S1 ⟨hl,q⟩=>⟨_,_,by unfold Bu;rw[if_pos hl],q⟩)
theorem Sy {gs:De->M (List W)} {Q:W->Store->Prop} (h:Wm (gs δ) S fun ws S1=>ws.length≤big∧Q (.tup ws) S1):Wm (Jh gs δ) S Q:=Cz (Dj h fun ws S1 ⟨hl,q⟩=>⟨_,_,by unfold Aa7;rw[if_pos hl];rfl,q⟩)
theorem Zr {Q:W->Store->Prop} (hl:ws.length≤big) (q:Q (.ref S.length) (S ++ [.lst ws])):Wm (Bu ws) S Q:=⟨_,_,by unfold Bu;rw[if_pos hl],q⟩
theorem Ii {c:Cell}:(S ++ [c])[S.length]?=some c:=by rw[List.getElem?_append_right (Nat.le_refl _),Nat.sub_self];rfl
theorem An1 {ns:List Int} {n:Nat} {i:Int} {w:W} {Q:W->Store->Prop} (hn:S[n]?=some (.lst ws)) (hi:atI ws i=some w) (q:Q w S):Wm (ixW ns (.ref n) (.int i)) S Q:=⟨w,S,by
 unfold ixW
 dsimp only
 rw[hn]
 dsimp only
 rw[hi]
 rfl,q⟩
theorem Asp {ns:List Int} {n:Nat} {Q:W->Store->Prop} (hn:S[n]?=some (.lst ws)) (q:Q (.int ws.length) S):Wm (Cv ns [.ref n]) S Q:=⟨_,S,by
 unfold Cv
 dsimp only
 rw[hn],q⟩
theorem Tc {ns:List Int} {n:Nat} {Q:W->Store->Prop} (hn:S[n]?=some (.lst ws)) (q:Q (.tup ws) S):Wm (Em ns [.ref n]) S Q:=⟨_,S,by
 unfold Em
 dsimp only
 rw[hn],q⟩
theorem Abu {op:W->List W->M W} {f:De->M W} {gs:De->M (List W)} {n:Nat} {Q:W->Store->Prop} (h1:Pu P (f δ) (.ref n)) (hS:P.p S) (hn:S[n]?=some (.lst ws)) (h2:∀S',Fr [] S S'->Wm (gs δ) S' fun us S2=>Wm (op (.ref n) us) S2 Q):Wm (Ji .lst op f gs δ) S Q:=by
 refine Cz (J6 h1 hS fun S1 f1=>?_)
 refine Cz (m:=(fun S=>if Ty.lst.is (.ref n) S then .ok () S else .bad:M Unit)) ⟨(),S1,?_,Cz (h2 S1 f1)⟩
 have e:Ty.lst.is (.ref n) S1=true:=by
  simp only[Ty.is,f1.at0 hn]
 exact if_pos e
theorem Zt {n:Nat} {w:W} {Q:W->Store->Prop} (hn:S[n]?=some (.lst ws)) (hl:ws.length < big) (q:Q .non (S.set n (.lst (ws ++ [w])))):Wm (Ox (.ref n) [w]) S Q:=⟨_,_,by
 unfold Ox Wx putL
 dsimp only
 rw[hn]
 dsimp only
 rw[if_pos (by rw[List.length_append,List.length_singleton];omega)],q⟩
theorem An2 {n j:Nat} {i:Int} {w:W} {Q:W->Store->Prop} (hn:S[n]?=some (.lst ws)) (hl:ws.length≤big) (hj:ixN ws.length i=some j) (hw:ws[j]?=some w) (q:Q w (S.set n (.lst (ws.eraseIdx j)))):Wm (Mg (.ref n) [.int i]) S Q:=⟨_,_,by
 unfold Mg Wx putL
 dsimp only
 rw[hn]
 dsimp only
 rw[if_pos hl,hj]
 dsimp only
 rw[hw]
 dsimp only
 rw[if_pos (Nat.le_trans (by rw[List.length_eraseIdx];split <;> omega) hl)],q⟩
theorem Ad6:∀is:List Int,PyData.canLayAll0 (is.map PyData.int)=true
 |[]=>rfl
 |i::is=>by
  rw[List.map_cons]
  show (PyData.canLay0 (.int i)&&PyData.canLayAll0 (is.map PyData.int))=true
  rw[Ad6 is]
  rfl
theorem Xa:∀is:List Int,PyData.depthAll (is.map PyData.int)=0
 |[]=>rfl
 |i::is=>by
  rw[List.map_cons]
  show max (PyData.depth (.int i)) (PyData.depthAll (is.map PyData.int))=0
  rw[Xa is]
  rfl
theorem Um (is:List Int):SeqAt.shaped (.list (is.map PyData.int))=true:=by
 unfold SeqAt.shaped
 rw[Bool.and_eq_true,decide_eq_true_eq]
 refine⟨Ad6 is,?_⟩
 show PyData.depthAll (is.map PyData.int)+1≤64
 rw[Xa]
 decide
theorem Zu:∀(is:List Int),Eg (Ig S 15) (is.map W.int)=some (is.map PyData.int)
 |[]=>rfl
 |i::is=>by
  rw[List.map_cons,Eg,Zu is]
  rfl
theorem Xb {a:Nat} {is:List Int} (h:S[a]?=some (.lst (is.map W.int))):Ig S 16 (.ref a)=some (.list (is.map PyData.int)):=by
 unfold Ig
 rw[h]
 dsimp only
 rw[Zu]
 rfl
theorem Agf {a b:Nat} {is:List Int} {Q:W->Store->Prop} (ha:S[a]?=some (.lst (is.map W.int))) (hb:S[b]?=some (.lst (is.map W.int))) (q:Q (.bl false) S):Wm (Hw .NotEq (.ref a) (.ref b)) S Q:=⟨.bl false,S,by
 show eqD true (.ref a) (.ref b) S=_
 unfold eqD
 rw[Xb ha,Xb hb]
 dsimp only
 rw[if_pos (by rw[Um];rfl),SeqAt.eqv_refl _ (SeqAt.canLay_of_shaped (Um is))]
 rfl,q⟩
theorem Asq {a b:Nat} {ws us:List W} {Q:W->Store->Prop} (ha:S[a]?=some (.lst ws)) (hb:S[b]?=some (.lst us)) (hl:ws.length+us.length≤big) (q:Q (.ref S.length) (S ++ [.lst (ws ++ us)])):Wm (Bop.fn .add (.ref a) (.ref b)) S Q:=⟨_,_,by
 show addW (.ref a) (.ref b) S=_
 unfold addW
 dsimp only
 rw[ha,hb]
 dsimp only
 rw[if_pos hl],q⟩
theorem An3 {a:Nat} {ss:List Str} {Q:W->Store->Prop} (ha:S[a]?=some (.lst (ss.map W.str))) (hl:ss.length < 64) (q:Q (.ref S.length) (S ++ [.lst ((Jl ss).map W.str)])):Wm (Jp [.ref a]) S Q:=⟨_,_,by
 unfold Jp
 dsimp only
 rw[ha]
 dsimp only
 rw[if_pos (by rw[List.length_map];exact hl),W7]
 dsimp only
 unfold Bu
 rw[if_pos (by rw[List.length_map,(Ho ss).length_eq];unfold big;omega)],q⟩
theorem Agg {t u:De->M Bool} {Q:Bool->Store->Prop} (h:Wm (t δ) S fun p S'=>p=false∧Wm (u δ) S' Q):Wm (orT t u δ) S Q:=Cz (Dj h fun p S' ⟨e,q⟩=>by subst e;exact q)
end
section
variable {b b' b2:MS} {δ δ':De} {S:Store} {K:RS->Prop} {f:De->M W} {t:De->M Bool} {i k n:Nat} {P:SP} {ws:List W} {p:Bool}
def G6 (b':MS) (K:RS->Prop):RS->Prop
 |.nx δ1 S1=>Wb b' δ1 S1 K
 |r=>K r
theorem Qg (h:Wb b δ S (G6 b' K)):Wb (Ak b b') δ S K:=⟨by
 have h:=h.un
 unfold Ak
 revert h
 cases b δ S with
 |nx δ1 S1=>exact fun h=>h.un
 |_=>exact fun h=>h⟩
theorem Mq {α:Type} {m:M α} {k:α->MS} (h:Wm m S fun a S'=>K (k a δ S')):K (El m k δ S):=by
 obtain⟨a,S',e,q⟩:=h
 unfold El
 rw[e]
 exact q
theorem Ds (h:Wm (f δ) S fun w S'=>Wb b' (δ.set i (some w)) S' K):Wb (Ak (Bx i f) b') δ S K:=Qg ⟨Mq (K:=G6 b' K) h⟩
theorem Vv (h:Wm (f δ) S fun _ S'=>Wb b' δ S' K):Wb (Ak (M7 f) b') δ S K:=Qg ⟨Mq (K:=G6 b' K) h⟩
theorem Kz (h:Wm (f δ) S fun w S'=>K (.rt w S')):Wb (Ak (retS f) b') δ S K:=Qg ⟨Mq (K:=G6 b' K) h⟩
theorem Jc (h:K (.nx δ S)):Wb Am δ S K:=⟨h⟩
theorem Abv (h:Wm (t δ) S fun p S'=>Wb (if p then b else b2) δ S' (G6 b' K)):Wb (Ak (ifS t b b2) b') δ S K:=Qg ⟨Mq (K:=G6 b' K) (Dj h fun p S' q=>by cases p <;> exact q.un)⟩
theorem Xc (h:Wm (t δ) S fun p S'=>p=true∧Wb b δ S' (G6 b' K)):Wb (Ak (ifS t b b2) b') δ S K:=Abv (Dj h fun p S' ⟨e,q⟩=>by subst e;exact q)
theorem Ij (h:Wm (t δ) S fun p S'=>p=false∧Wb b' δ S' K):Wb (Ak (ifS t b Am) b') δ S K:=Abv (Dj h fun p S' ⟨e,q⟩=>by subst e;exact⟨q⟩)
theorem Asr {d:Nat} {kvs:List (Key×W)} {kw v:W} {kk:Key} {g h:De->M W} (h1:Pu P (h δ) v) (h2:Pu P (f δ) (.ref d)) (h3:Pu P (g δ) kw) (hS:P.p S) (hd:S[d]?=some (.dct kvs)) (hk:Wr kw=some kk) (hl:kvs.length < big)
  (q:∀S',Fr [] S S'->Wb b' δ (S'.set d (.dct (O8 kvs kk v))) K):Wb (Ak (Wy f g h) b') δ S K:=by
 obtain⟨G1,e1⟩:=h1 S hS
 obtain⟨G2,e2⟩:=h2 (S ++ G1) (P.st _ _ hS)
 obtain⟨G3,e3⟩:=h3 (S ++ G1 ++ G2) (P.st _ _ (P.st _ _ hS))
 have f3:Fr [] S (S ++ G1 ++ G2 ++ G3):=(Fr.app.then0 Fr.app).then0 Fr.app
 refine Qg ⟨?_⟩
 refine Mq (K:=G6 b' K) ⟨(),(S ++ G1 ++ G2 ++ G3).set d (.dct (O8 kvs kk v)),?_,q _ f3⟩
 rw[Br,e1]
 dsimp only
 rw[Br,e2]
 dsimp only
 rw[Br,e3]
 dsimp only
 unfold Zj
 dsimp only
 rw[f3.at0 hd]
 dsimp only
 rw[hk]
 dsimp only
 rw[if_pos hl]
def Vf (Q:W->Store->Prop):RS->Prop
 |.rt w S'=>Q w S'
 |.nx _ S'=>Q .non S'
 |_=>False
theorem Td {Q:W->Store->Prop} (hl:ws.length=k) (h:Wb b (Bp n ws) S (Vf Q)):Wm (Df k n b ws) S Q:=by
 have h:=h.un
 unfold Wm Df
 rw[if_pos hl]
 revert h
 cases b (Bp n ws) S with
 |nx δ S'=>exact fun h=>⟨_,_,rfl,h⟩
 |rt w S'=>exact fun h=>⟨_,_,rfl,h⟩
 |bk _ _=>exact fun h=>h.elim
 |ct _ _=>exact fun h=>h.elim
 |ex _ _ _=>exact fun h=>h.elim
 |bad=>exact fun h=>h.elim
theorem Zv {Q1 Q2:W->Store->Prop} (h:∀w T,Q1 w T->Q2 w T):∀r,Vf Q1 r->Vf Q2 r
 |.rt w S',z=>h w S' z
 |.nx _ S',z=>h .non S' z
 |.bk _ _,z=>z
 |.ct _ _,z=>z
 |.ex _ _ _,z=>z
 |.bad,z=>z
theorem Agh {K K':RS->Prop} (h:∀r,K r->K' r):∀r,G6 b' K r->G6 b' K' r
 |.nx _ _,z=>⟨h _ z.un⟩
 |.rt _ _,z=>h _ z
 |.bk _ _,z=>h _ z
 |.ct _ _,z=>h _ z
 |.ex _ _ _,z=>h _ z
 |.bad,z=>h _ z
theorem Ah8 {Q1 Q2:W->Store->Prop} (h:Wb b δ S (G6 b' (Vf Q1))) (k:∀w T,Q1 w T->Q2 w T):Wb b δ S (G6 b' (Vf Q2)):=⟨Agh (Zv k) _ h.un⟩
theorem An4 {Q1 Q2:W->Store->Prop} (h:Wb b δ S (Vf Q1)) (k:∀w T,Q1 w T->Q2 w T):Wb b δ S (Vf Q2):=⟨Zv k _ h.un⟩
def Zw (J:De->Store->Prop) (K:RS->Prop):RS->Prop
 |.nx δ S=>J δ S
 |.ct δ S=>J δ S
 |.bk δ S=>K (.nx δ S)
 |r=>K r
theorem Ah9 {s:Tg} {J:Nat->De->Store->Prop} {ws:List W} (step:∀(i:Nat) (w:W) (δ:De) (S:Store),ws[i]?=some w->J i δ S->∃δ1,s w δ=some δ1∧Wb b δ1 S (Zw (J (i+1)) K))
  (fin:∀δ S,J ws.length δ S->K (.nx δ S)) (h0:J 0 δ S):Wb (Lg s b ws) δ S K:=by
 have key:∀(us:List W) (i:Nat) (δ:De) (S:Store),ws.drop i=us->J i δ S->i≤ws.length->Wb (Lg s b us) δ S K:=by
  intro us
  induction us with
  |nil=>
   intro i δ S hd hJ hi
   have:i=ws.length:=by
    have:=List.drop_eq_nil_iff.mp hd
    omega
   subst this
   exact⟨fin δ S hJ⟩
  |cons w us ih=>
   intro i δ S hd hJ hi
   have hlt:i < ws.length:=by
    rcases Nat.lt_or_ge i ws.length with h|h
    .exact h
    .rw[List.drop_eq_nil_of_le h] at hd;cases hd
   have hc:=List.drop_eq_getElem_cons hlt
   rw[hd] at hc
   have hw:ws[i]?=some w:=by rw[List.getElem?_eq_getElem hlt,(List.cons.inj hc).1]
   obtain⟨δ1,e1,hb⟩:=step i w δ S hw hJ
   have hb:=hb.un
   refine⟨?_⟩
   unfold Lg
   rw[e1]
   dsimp only
   revert hb
   cases b δ1 S with
   |nx δ2 S2=>exact fun hb=>(ih (i+1) δ2 S2 (List.cons.inj hc).2.symm hb hlt).un
   |ct δ2 S2=>exact fun hb=>(ih (i+1) δ2 S2 (List.cons.inj hc).2.symm hb hlt).un
   |bk δ2 S2=>exact fun hb=>hb
   |rt _ _=>exact fun hb=>hb
   |ex _ _ _=>exact fun hb=>hb
   |bad=>exact fun hb=>hb
 exact key ws 0 δ S rfl h0 (Nat.zero_le _)
theorem An5 {s:Tg} {src:De->M Src} (h1:Pu P (src δ) (.fix ws)) (hS:P.p S) (h2:∀S',Fr [] S S'->Wb (Lg s b ws) δ S' (G6 b' K)):Wb (Ak (Vd src s b) b') δ S K:=
 Qg ⟨Mq (K:=G6 b' K) (J6 h1 hS fun S' f=>(h2 S' f).un)⟩
theorem Te {c:De->M Bool} {J:Nat->De->Store->Prop} (step:∀(m:Nat) (δ:De) (S:Store),J m δ S->Wm (c δ) S fun p S'=>if p=true then Wb b δ S' (Zw (fun δ2 S2=>∃m',m' < m∧J m' δ2 S2) K) else K (.nx δ S')) :
  ∀(fuel m:Nat) (δ:De) (S:Store),J m δ S->m < fuel->Wb (Fy c b fuel) δ S K
 |0,m,_,_,_,h=>by omega
 |fuel+1,m,δ,S,hJ,hm=>by
  refine⟨?_⟩
  unfold Fy
  refine Mq (Dj (step m δ S hJ) fun p S' h=>?_)
  cases p with
  |false=>exact h
  |true=>
   have h:Wb b δ S' (Zw (fun δ2 S2=>∃m',m' < m∧J m' δ2 S2) K):=h
   have h:=h.un
   show K (match b δ S' with
    |.nx δ1 S1=>Fy c b fuel δ1 S1
    |.ct δ1 S1=>Fy c b fuel δ1 S1
    |.bk δ1 S1=>.nx δ1 S1
    |r=>r)
   revert h
   cases b δ S' with
   |nx δ2 S2=>rintro⟨m',h1,h2⟩;exact(Te step fuel m' δ2 S2 h2 (by omega)).un
   |ct δ2 S2=>rintro⟨m',h1,h2⟩;exact(Te step fuel m' δ2 S2 h2 (by omega)).un
   |bk δ2 S2=>exact fun hb=>hb
   |rt _ _=>exact fun hb=>hb
   |ex _ _ _=>exact fun hb=>hb
   |bad=>exact fun hb=>hb
theorem Rc {c:De->M Bool} {J:Nat->De->Store->Prop} {fuel m:Nat} (h0:J m δ S) (hm:m < fuel) (step:∀(m:Nat) (δ:De) (S:Store),J m δ S->Wm (c δ) S fun p S'=>if p=true then Wb b δ S' (Zw (fun δ2 S2=>∃m',m' < m∧J m' δ2 S2) (G6 b' K)) else Wb b' δ S' K) :
  Wb (Ak (Fy c b fuel) b') δ S K:=Qg (Te (K:=G6 b' K) step fuel m δ S h0 hm)
theorem Ad7 {s:Tg} {t:De->M Bool} {e:De->M W} {J:Nat->De->List W->Store->Prop} {ws:List W} {Q:List W->Store->Prop}
  (step:∀(i:Nat) (w:W) (δ:De) (acc:List W) (S:Store),ws[i]?=some w->J i δ acc S->∃δ1,s w δ=some δ1∧Wm (t δ1) S fun p S1=>if p=true then Wm (e δ1) S1 fun y S2=>acc.length < big∧J (i+1) δ1 (acc ++ [y]) S2 else J (i+1) δ1 acc S1)
  (fin:∀δ acc S,J ws.length δ acc S->Q acc S) {acc:List W} (h0:J 0 δ acc S):Wm (Hr s t e ws δ acc) S Q:=by
 have key:∀(us:List W) (i:Nat) (δ:De) (acc:List W) (S:Store),ws.drop i=us->J i δ acc S->i≤ws.length->Wm (Hr s t e us δ acc) S Q:=by
  intro us
  induction us with
  |nil=>
   intro i δ acc S hd hJ hi
   have:i=ws.length:=by
    have:=List.drop_eq_nil_iff.mp hd
    omega
   subst this
   exact Jt (fin δ acc S hJ)
  |cons w us ih=>
   intro i δ acc S hd hJ hi
   have hlt:i < ws.length:=by
    rcases Nat.lt_or_ge i ws.length with h|h
    .exact h
    .rw[List.drop_eq_nil_of_le h] at hd;cases hd
   have hc:=List.drop_eq_getElem_cons hlt
   rw[hd] at hc
   have hw:ws[i]?=some w:=by rw[List.getElem?_eq_getElem hlt,(List.cons.inj hc).1]
   obtain⟨δ1,e1,hb⟩:=step i w δ acc S hw hJ
   unfold Hr
   rw[e1]
   dsimp only
   refine Cz (Abt (Dj hb fun p S1 h=>?_))
   cases p with
   |false=>exact ih (i+1) δ1 acc S1 (List.cons.inj hc).2.symm h hlt
   |true=>
    refine Cz (Abt (Dj h fun y S2 ⟨hl,hJ2⟩=>?_))
    rw[if_pos hl]
    exact ih (i+1) δ1 (acc ++ [y]) S2 (List.cons.inj hc).2.symm hJ2 hlt
 exact key ws 0 δ acc S rfl h0 (Nat.zero_le _)
theorem Tf {s:Tg} {t:De->M Bool} {e:De->M W} {J:Nat->De->List W->Store->Prop} {ws:List W} {d:Nat} {Q:List W->Store->Prop} (there:∀i δ acc S,J i δ acc S->S[d]?=some (.lst ws))
  (step:∀(i:Nat) (w:W) (δ:De) (acc:List W) (S:Store),ws[i]?=some w->J i δ acc S->∃δ1,s w δ=some δ1∧Wm (t δ1) S fun p S1=>if p=true then Wm (e δ1) S1 fun y S2=>acc.length < big∧J (i+1) δ1 (acc ++ [y]) S2 else J (i+1) δ1 acc S1)
  (fin:∀δ acc S,J ws.length δ acc S->Q acc S):∀(fuel i:Nat) (δ:De) (acc:List W) (S:Store),J i δ acc S->i≤ws.length->ws.length < i+fuel->Wm (Fz s t e d fuel i δ acc) S Q
 |0,i,_,_,_,_,_,_=>by omega
 |fuel+1,i,δ,acc,S,hJ,hi,hf=>by
  have hd:=there i δ acc S hJ
  show ∃a S',Fz s t e d (fuel+1) i δ acc S=.ok a S'∧Q a S'
  unfold Fz
  rw[hd]
  dsimp only
  by_cases hx:i < ws.length
  .have hw:ws[i]?=some ws[i]:=List.getElem?_eq_getElem hx
   rw[hw]
   dsimp only
   obtain⟨δ1,e1,hb⟩:=step i ws[i] δ acc S hw hJ
   rw[e1]
   dsimp only
   refine Cz (Abt (Dj hb fun p S1 h=>?_))
   cases p with
   |false=>exact Tf there step fin fuel (i+1) δ1 acc S1 h hx (by omega)
   |true=>
    refine Cz (Abt (Dj h fun y S2 ⟨hl,hJ2⟩=>?_))
    rw[if_pos hl]
    exact Tf there step fin fuel (i+1) δ1 (acc ++ [y]) S2 hJ2 hx (by omega)
  .have:i=ws.length:=by omega
   subst this
   rw[List.getElem?_eq_none (Nat.le_refl _)]
   exact⟨_,_,rfl,fin δ acc S hJ⟩
theorem Aia {k:Nat} {cap:List Nat} {src:De->M Src} {s:Tg} {t:De->M Bool} {e:De->M W} {Q:W->Store->Prop} (h1:Pu P (src δ) (.fix ws)) (hS:P.p S) (h2:∀S',Fr [] S S'->Wm (Hr s t e ws (Li k cap δ) []) S' fun acc S2=>acc.length≤big∧Q (.ref S2.length) (S2 ++ [.lst acc])):Wm (Cy k cap src s t e δ) S Q:=
 Cz (J6 h1 hS fun S' f=>Cz (Dj (h2 S' f) fun _ _ ⟨hl,q⟩=>Zr hl q))
theorem An6 {k d:Nat} {cap:List Nat} {src:De->M Src} {s:Tg} {t:De->M Bool} {e:De->M W} {Q:W->Store->Prop} (h1:Pu P (src δ) (.liv d)) (hS:P.p S) (hd:S[d]?=some (.lst ws)) (h2:∀S',Fr [] S S'->Wm (Fz s t e d (ws.length+1) 0 (Li k cap δ) []) S' fun acc S2=>acc.length≤big∧Q (.ref S2.length) (S2 ++ [.lst acc])):Wm (Cy k cap src s t e δ) S Q:=by
 refine Cz (J6 h1 hS fun S' f=>?_)
 have h:=Cz (f:=Bu) (Dj (h2 S' f) fun _ _ ⟨hl,q⟩=>Zr hl q)
 obtain⟨a,S3,e3,q⟩:=h
 refine⟨a,S3,?_,q⟩
 show (match S'[d]? with|some (.lst ws)=>(Fz s t e d (ws.length+1) 0 (Li k cap δ) [] >>= Bu) S'|_=>R.bad)=_
 rw[f.at0 hd]
 exact e3
end
end D
namespace M1
open PySem PySem.Builtin.Str
def sgs:Str:="0123456789abcdefghijklmnopqrstuvwxyzABCDEFGHIJKLMNOPQRSTUVWXYZ+-"
theorem Ad8:sgs.cps.size=64:=by decide +kernel
def sg (v:Nat):Nat:=sgs.cps.getD v 0
def one (c:Nat):Str:=⟨#[c]⟩
theorem Axv {v:Nat} (h:v < 64):sgs.cps.toList[v]?=some (sg v):=by
 have h':v < sgs.cps.size:=by rw[Ad8];exact h
 rw[Array.getElem?_toList,Array.getElem?_eq_getElem h']
 unfold sg
 rw[Array.getD_eq_getD_getElem?,Array.getElem?_eq_getElem h']
 rfl
def Cw:Nat->Int->Str
 |0,_=>⟨#[]⟩
 |k+1,n=>one (sg (n / 64 ^ k % 64).toNat) ++ Cw k n
theorem Aj8 (k:Nat) (n:Int):(Cw k n).cps.size=k:=by
 induction k with
 |zero=>rfl
 |succ k ih=>
  show ((one _).cps ++ (Cw k n).cps).size=k+1
  rw[Array.size_append,ih]
  show 1+k=k+1
  omega
end M1
namespace M2
open PySem PySem.Builtin.Str M1
def okC (c:Nat):Bool:=decide (32≤c)&&decide (c≤126)&&decide (c≠37)
def Ea (x:Str):Bool:=x.cps.toList.all okC
def Vg (l:List Nat) (k:Nat):Int:=((List.range k).map fun(i:Nat)=>((l.getD i 0:Nat) - 32+1:Int) * ((i:Int)+1)).sum
def chk (l:List Nat):Int:=Vg l l.length
theorem Aj9 (l:List Nat) (k:Nat):Vg l (k+1)=Vg l k+((l.getD k 0:Nat) - 32+1:Int) * ((k:Int)+1):=by
 unfold Vg
 rw[List.range_succ,List.map_append,List.sum_append,List.map_cons,List.map_nil,List.sum_cons,List.sum_nil]
 omega
def check (x:Str):Str:=Cw 2 (chk x.cps.toList % 4093)
theorem Ass {c:Nat}:okC c=true ↔ 32≤c∧c≤126∧c≠37:=by
 unfold okC
 simp[and_assoc]
theorem Aib {l:List Nat} {a:Nat} (h:l.all okC=true) (ha:a < l.length):okC (l.getD a 0)=true:=by
 rw[List.getD_eq_getElem?_getD,List.getElem?_eq_getElem ha]
 exact List.all_eq_true.mp h _ (List.getElem_mem ha)
theorem Ad9 {α:Type} {p:α->Bool} {a:α} {l:List α} (ha:p a=true) (h:∃c∈a::l,p c=false):∃c∈l,p c=false:=by
 obtain⟨c,hc,hp⟩:=h
 cases hc with
 |head=>rw[ha] at hp;cases hp
 |tail _ hc=>exact⟨c,hc,hp⟩
theorem Ti {α:Type} (p:α->Bool):∀l:List α,(∃c∈l,p c=false)->(l.takeWhile p).length < l.length
 |[],h=>by obtain⟨c,hc,_⟩:=h;cases hc
 |a::l,h=>by
  rw[List.takeWhile_cons]
  cases ha:p a with
  |false=>simp
  |true=>
   have:=Ti p l (Ad9 ha h)
   simp only[if_true,List.length_cons]
   omega
theorem Zx {α:Type} (p:α->Bool):∀l:List α,(∀c∈l,p c=true)->l.takeWhile p=l
 |[],_=>rfl
 |a::l,h=>by
  rw[List.takeWhile_cons,h a (.head _),if_pos rfl,Zx p l (fun c hc=>h c (.tail _ hc))]
theorem Zy {α:Type} (p:α->Bool):∀l:List α,(∃c∈l,p c=false)->∃c∈l.drop (l.takeWhile p).length,p c=false
 |[],h=>by obtain⟨c,hc,_⟩:=h;cases hc
 |a::l,h=>by
  rw[List.takeWhile_cons]
  cases ha:p a with
  |false=>exact⟨a,.head _,ha⟩
  |true=>
   simp only[if_true,List.length_cons,List.drop_succ_cons]
   exact Zy p l (Ad9 ha h)
theorem Aka {x y:Str} (h:∀c∈x.cps.toList,y.cps.contains c=true):Txt.stripChars x y=⟨#[]⟩:=by
 have lo:stripLo y.cps.contains true x=x.cps.size:=by
  unfold stripLo
  rw[if_pos rfl,Zx _ _ h,Array.length_toList]
 have hi:stripHi y.cps.contains true x x.cps.size=x.cps.size:=by
  unfold stripHi
  rw[if_pos rfl,List.drop_of_length_le (by rw[Array.length_toList];exact Nat.le_refl _)]
  rfl
 unfold Txt.stripChars Txt.stripBy
 split
 .rename_i hs
  unfold stripSame at hs
  rw[lo,Bool.and_eq_true] at hs
  have:x.cps.size=0:=by simpa using hs.1
  cases x with|mk cps=>
  exact congrArg Str.mk (Array.eq_empty_of_size_eq_zero this)
 .unfold stripped
  rw[lo,hi]
  show Str.mk (x.cps.extract x.cps.size x.cps.size)=_
  exact congrArg Str.mk (Array.eq_empty_of_size_eq_zero (by simp))
theorem Akb {x y:Str} (h:∃c∈x.cps.toList,y.cps.contains c=false):Txt.stripChars x y≠⟨#[]⟩:=by
 have hl:x.cps.toList.length=x.cps.size:=Array.length_toList
 have hlo:stripLo y.cps.contains true x=(x.cps.toList.takeWhile y.cps.contains).length:=by
  unfold stripLo
  rw[if_pos rfl]
 have h1:=Ti _ _ h
 have h2:=Zy _ _ h
 have h3:∃c∈(x.cps.toList.drop (x.cps.toList.takeWhile y.cps.contains).length).reverse,y.cps.contains c=false:=by
  obtain⟨c,hc,hp⟩:=h2
  exact⟨c,List.mem_reverse.mpr hc,hp⟩
 have h4:=Ti _ _ h3
 rw[List.length_reverse,List.length_drop] at h4
 intro e
 have e:=congrArg (fun z:Str=>z.cps.size) e
 unfold Txt.stripChars Txt.stripBy at e
 split at e
 .have e:x.cps.size=0:=e
  omega
 .unfold stripped at e
  rw[hlo] at e
  unfold stripHi at e
  rw[if_pos rfl] at e
  have e:(x.cps.extract (x.cps.toList.takeWhile y.cps.contains).length (x.cps.size - ((x.cps.toList.drop (x.cps.toList.takeWhile y.cps.contains).length).reverse.takeWhile y.cps.contains).length)).size=0:=e
  rw[Array.size_extract] at e
  omega
def tsg:Str:=" !\"#$&'()*+,-./0123456789:;<=>?@ABCDEFGHIJKLMNOPQRSTUVWXYZ[\\]^_`abcdefghijklmnopqrstuvwxyz{|}~"
theorem Ast:∀c,c < 127->tsg.cps.contains c=okC c:=by decide +kernel
theorem Asu:tsg.cps.toList.all (fun c=>decide (c < 127))=true:=by decide +kernel
theorem An7 (c:Nat):tsg.cps.contains c=okC c:=by
 by_cases h:c < 127
 .exact Ast c h
 .have e:okC c=false:=by
   unfold okC
   rw[decide_eq_false (p:=c≤126) (by omega),Bool.and_false,Bool.false_and]
  rw[e]
  cases hc:tsg.cps.contains c with
  |false=>rfl
  |true=>
   have hm:c∈tsg.cps.toList:=by simpa using hc
   exact absurd (of_decide_eq_true (List.all_eq_true.mp Asu c hm)) h
theorem Agi (z:Str):(Txt.stripChars z tsg==⟨#[]⟩)=Ea z:=by
 cases h:Ea z with
 |true=>
  rw[Aka (fun c hc=>by rw[An7];exact List.all_eq_true.mp h c hc)]
  exact beq_self_eq_true _
 |false=>
  rw[beq_eq_false_iff_ne]
  refine Akb ?_
  obtain⟨c,hc,hp⟩:=List.all_eq_false.mp h
  exact⟨c,hc,by rw[An7];exact Bool.not_eq_true _ ▸ hp⟩
end M2
namespace K4
open PySem PySem.Spec PyProof.Rows L2 D
def top (i:Nat):Stmt:=PySem.Challenge.pw_leafhouse_k04_bodies_and_texts.main.body.getD i (.Pass ⟨0,0,0,0⟩)
def fuel:Nat:=1000
def Ba2:List (Nat×Nat×Bool):=[(0,0,true),(0,1,false),(0,2,false),(0,3,false),(0,4,false),(1,0,true),(1,1,true),(1,2,false),(1,3,false),(1,4,false),(2,0,true),(2,1,false),(2,2,true),(2,3,false),(2,4,false),(3,0,true),(3,1,false),(3,2,false),(3,3,true),(3,4,false),(4,0,true),(4,1,false),(4,2,false),(4,3,false),(4,4,true)]
def Ba3:List Nat:=[0,1,2,3,4]
def isa:Nat->W->Option Bool:=Ans Ba2 Ba3
def Ba4:List (Str×W):=[("SIGNS",.str "0123456789abcdefghijklmnopqrstuvwxyzABCDEFGHIJKLMNOPQRSTUVWXYZ+-"),("BITS",.int 6),("LOWEST_BITS",.int 63),("MOST_SIGNS",.int 3),("TEXT_SIGNS",.str " !\"#$&'()*+,-./0123456789:;<=>?@ABCDEFGHIJKLMNOPQRSTUVWXYZ[\\]^_`abcdefghijklmnopqrstuvwxyz{|}~"),("CODES_AHEAD",.int 31),("CHECK_DIVISOR",.int 4093),("CHECK_SIGNS",.int 2),("MOST_KEY_SIGNS",.int 12),("MOST_VALUE_SIGNS",.int 400),("LEAST_SIZE",.int 64),("MOST_SIZE",.int 200),("MOST_NUMBER",.int 4095),("MOST_ROWS",.int 63),("MOST_CELL_SIGNS",.int 63),("NUMBER_SIGNS",.int 2),("SIGNS_BESIDE_BODY",.int 5),("int",.ty "int"),("bool",.ty "bool"),("str",.ty "str"),("tuple",.ty "tuple"),("list",.ty "list"),("ValueError",.ty "ValueError"),("TableError",.cls 0),("BadNumber",.cls 1),("BadText",.cls 2),("BadSize",.cls 3),("BadPage",.cls 4)]
def biL:List Str:=["isinstance","len","ord","max","sum","all","tuple","list","sorted","range","zip","enumerate"]
def Ba5:List (Str×Nat):=[("TableError",0),("BadNumber",1),("BadText",2),("BadSize",3)]
def Ba6:List (Str×(Nat×List W)):=[("BadPage",(4,[]))]
def Ba7:List (Str×Nat):=[("TableError",0)]
def Ba8:List (Nat×Nat):=[(0,0),(0,1),(0,2),(0,3),(0,4)]
def exm (k c:Nat):Bool:=Ba8.contains (k,c)
def Fp:List (Str×Str):=[("head","h"),("leaf","l"),("fork","f"),("rest","r"),("free","e")]
def Ba9:List (Str×List (Str×Str)):=[("LETTERS",Fp)]
def md (ns:List Int):Md:={ con:=fun x=>Ba4.lookup x,bi:=fun x=>biL.contains x,exc:=fun x=>Ba5.lookup x,isa:=isa,ns:=ns,fuel:=fuel,mdc:=fun x=>Ba9.lookup x,exi:=fun x=>Ba6.lookup x,hcl:=fun x=>Ba7.lookup x,exm:=exm }
def T_0 (ns:List Int):List (Str×Fi):=[]
abbrev Hg:Stmt:=top 15
def Xd:List Str:=["thing"]
def Xe (ns:List Int):MS:=(Ak (retS (Gx (Ah (Jq isa) (Aa (Ac 0) (Aa (kF (.ty "int")) nilF))) (Ajr (Ah (Jq isa) (Aa (Ac 0) (Aa (kF (.ty "bool")) nilF))))))
 Am)
def Gb (ns:List Int):List W->M W:=Df 1 1 (Xe ns)
theorem Agj (ns:List Int):Dp (An Hg) ((md ns).gm (T_0 ns) Xd (Ad Hg))=Xe ns:=by kernel_rfl
def Qh (ns:List Int):List (Str×Fi):=("is_whole",⟨Gb ns,1,[]⟩)::T_0 ns
theorem Aea:Bg Xd ["thing"] (Ad Hg):=⟨rfl,rfl,rfl,by decide +kernel,rfl,by decide +kernel,by decide +kernel⟩
abbrev Ik:Stmt:=top 16
def Zz:List Str:=["thing"]
def Z0 (ns:List Int):MS:=(Ak (retS (Gx (Ah (Jq isa) (Aa (Ac 0) (Aa (kF (.ty "str")) nilF))) (Bc .Eq (Ji .str Abe (Ac 0) (Aa (kF (.str " !\"#$&'()*+,-./0123456789:;<=>?@ABCDEFGHIJKLMNOPQRSTUVWXYZ[\\]^_`abcdefghijklmnopqrstuvwxyz{|}~")) nilF)) (kF (.str "")))))
 Am)
def Lp (ns:List Int):List W->M W:=Df 1 1 (Z0 ns)
theorem Akc (ns:List Int):Dp (An Ik) ((md ns).gm (Qh ns) Zz (Ad Ik))=Z0 ns:=by kernel_rfl
def Tj (ns:List Int):List (Str×Fi):=("is_text",⟨Lp ns,1,[]⟩)::Qh ns
theorem Agk:Bg Zz ["thing"] (Ad Ik):=⟨rfl,rfl,rfl,by decide +kernel,rfl,by decide +kernel,by decide +kernel⟩
abbrev J7:Stmt:=top 17
def Aeb:List Str:=["number","many","text","left","place"]
def Aec (ns:List Int):MS:=(Ak (ifS (orT (Mh (Az (Ah (Gb ns) (Aa (Ac 0) nilF)))) (Az (Bc .Lt (Ac 0) (kF (.int 0))))) (Ak (Mi 1 (Aa (kF (.str "no whole number from nought on")) nilF))
  Am) Am)
 (Ak (ifS (orT (Mh (Az (Ah (Gb ns) (Aa (Ac 1) nilF)))) (orT (Az (Bc .Lt (Ac 1) (kF (.int 1)))) (Az (Bc .Gt (Ac 1) (kF (.int 3)))))) (Ak (Mi 1 (Aa (kF (.str "a number is written by one to three signs")) nilF))
  Am) Am)
 (Ak (ifS (Az (Bc .Gt (Ar .shr (Ac 0) (Ar .mul (kF (.int 6)) (Ac 1))) (kF (.int 0)))) (Ak (Mi 1 (Aa (kF (.str "a number greater than so many signs write")) nilF))
  Am) Am)
 (Ak (Bx 2 (kF (.str "")))
 (Ak (Bx 3 (Ac 0))
 (Ak (Vd (Lh Hq (Aa (Ac 1) nilF)) (Cr 4) (Ak (Bx 2 (Ar .add (ixF ns (kF (.str "0123456789abcdefghijklmnopqrstuvwxyzABCDEFGHIJKLMNOPQRSTUVWXYZ+-")) (Ar .and (Ac 3) (kF (.int 63)))) (Ac 2)))
  (Ak (Bx 3 (Ar .shr (Ac 3) (kF (.int 6))))
  Am)))
 (Ak (retS (Ac 2))
 Am)))))))
def Fo (ns:List Int):List W->M W:=Df 2 5 (Aec ns)
theorem An8 (ns:List Int):Dp (An J7) ((md ns).gm (Tj ns) Aeb (Ad J7))=Aec ns:=by kernel_rfl
def Xf (ns:List Int):List (Str×Fi):=("digits",⟨Fo ns,2,[]⟩)::Tj ns
theorem Akd:Bg Aeb ["number","many"] (Ad J7):=⟨rfl,rfl,rfl,by decide +kernel,rfl,by decide +kernel,by decide +kernel⟩
abbrev Hh:Stmt:=top 18
def Xg:List Str:=["text","total"]
def Xh (ns:List Int):MS:=(Ak (ifS (Mh (Az (Ah (Lp ns) (Aa (Ac 0) nilF)))) (Ak (Mi 2 (Aa (kF (.str "no text")) nilF))
  Am) Am)
 (Ak (Bx 1 (Ah Abb (Aa (Cy 2 [] (Ahq (Ac 0)) (Q5 [0,1]) (fun _=>pure true) (Ar .mul (Ar .sub (Ah Amk (Aa (Ac 1) nilF)) (kF (.int 31))) (Ac 0))) nilF)))
 (Ak (retS (Ah (Fo ns) (Aa (Ar .mod (Ac 1) (kF (.int 4093))) (Aa (kF (.int 2)) nilF))))
 Am)))
def Qi (ns:List Int):List W->M W:=Df 1 2 (Xh ns)
theorem Agl (ns:List Int):Dp (An Hh) ((md ns).gm (Xf ns) Xg (Ad Hh))=Xh ns:=by kernel_rfl
def Qj (ns:List Int):List (Str×Fi):=("check_of",⟨Qi ns,1,[]⟩)::Xf ns
theorem Aed:Bg Xg ["text"] (Ad Hh):=⟨rfl,rfl,rfl,by decide +kernel,rfl,by decide +kernel,by decide +kernel⟩
abbrev J8:Stmt:=top 22
def Aee:List Str:=["thing"]
def Aef (ns:List Int):MS:=(Ak (retS (Gx (Ah (Lp ns) (Aa (Ac 0) nilF)) (J3 .LtE .LtE (kF (.int 1)) (Ah (Cv ns) (Aa (Ac 0) nilF)) (kF (.int 12)))))
 Am)
def Lq (ns:List Int):List W->M W:=Df 1 1 (Aef ns)
theorem An9 (ns:List Int):Dp (An J8) ((md ns).gm (Qj ns) Aee (Ad J8))=Aef ns:=by kernel_rfl
def Xi (ns:List Int):List (Str×Fi):=("is_key",⟨Lq ns,1,[]⟩)::Qj ns
theorem Ake:Bg Aee ["thing"] (Ad J8):=⟨rfl,rfl,rfl,by decide +kernel,rfl,by decide +kernel,by decide +kernel⟩
abbrev Il:Stmt:=top 32
def Z1:List Str:=["thing"]
def Z2 (ns:List Int):MS:=(Ak (retS (Gx (Ah (Gb ns) (Aa (Ac 0) nilF)) (J3 .LtE .LtE (kF (.int 64)) (Ac 0) (kF (.int 200)))))
 Am)
def Lr (ns:List Int):List W->M W:=Df 1 1 (Z2 ns)
theorem Akf (ns:List Int):Dp (An Il) ((md ns).gm (Xi ns) Z1 (Ad Il))=Z2 ns:=by kernel_rfl
def Tn (ns:List Int):List (Str×Fi):=("is_size",⟨Lr ns,1,[]⟩)::Xi ns
theorem Agm:Bg Z1 ["thing"] (Ad Il):=⟨rfl,rfl,rfl,by decide +kernel,rfl,by decide +kernel,by decide +kernel⟩
abbrev Im:Stmt:=top 33
def Z3:List Str:=["size"]
def Z4 (ns:List Int):MS:=(Ak (retS (Ar .sub (Ac 0) (kF (.int 5))))
 Am)
def Tp (ns:List Int):List W->M W:=Df 1 1 (Z4 ns)
theorem Akg (ns:List Int):Dp (An Im) ((md ns).gm (Tn ns) Z3 (Ad Im))=Z4 ns:=by kernel_rfl
def Tq (ns:List Int):List (Str×Fi):=("room_of",⟨Tp ns,1,[]⟩)::Tn ns
theorem Agn:Bg Z3 ["size"] (Ad Im):=⟨rfl,rfl,rfl,by decide +kernel,rfl,by decide +kernel,by decide +kernel⟩
abbrev Cg:Stmt:=top 34
def Uo:List Str:=["thing","least"]
def Up (ns:List Int):MS:=(Ak (retS (Gx (Ah (Gb ns) (Aa (Ac 0) nilF)) (J3 .LtE .LtE (Ac 1) (Ac 0) (kF (.int 4095)))))
 Am)
def Dv (ns:List Int):List W->M W:=Df 2 2 (Up ns)
theorem Aeg (ns:List Int):Dp (An Cg) ((md ns).gm (Tq ns) Uo (Ad Cg))=Up ns:=by kernel_rfl
def Nz (ns:List Int):List (Str×Fi):=("is_number",⟨Dv ns,2,[(.int 0)]⟩)::Tq ns
theorem Abw:Bg Uo ["thing","least"] (Ad Cg):=⟨rfl,rfl,rfl,by decide +kernel,rfl,by decide +kernel,by decide +kernel⟩
abbrev Ez:Stmt:=top 35
def Rf:List Str:=["thing","least","most"]
def Rg (ns:List Int):MS:=(Ak (retS (Gx (Ah (Lp ns) (Aa (Ac 0) nilF)) (J3 .LtE .LtE (Ac 1) (Ah (Cv ns) (Aa (Ac 0) nilF)) (Ac 2))))
 Am)
def Ju (ns:List Int):List W->M W:=Df 3 3 (Rg ns)
theorem Abx (ns:List Int):Dp (An Ez) ((md ns).gm (Nz ns) Rf (Ad Ez))=Rg ns:=by kernel_rfl
def Mr (ns:List Int):List (Str×Fi):=("is_text_of",⟨Ju ns,3,[]⟩)::Nz ns
theorem Yn:Bg Rf ["thing","least","most"] (Ad Ez):=⟨rfl,rfl,rfl,by decide +kernel,rfl,by decide +kernel,by decide +kernel⟩
abbrev Eo:Stmt:=top 36
def O9:List Str:=["thing","many"]
def Pa (ns:List Int):MS:=(Ak (retS (Gx (Ah (Jq isa) (Aa (Ac 0) (Aa (kF (.ty "tuple")) nilF))) (Bc .Eq (Ah (Cv ns) (Aa (Ac 0) nilF)) (Ac 1))))
 Am)
def G7 (ns:List Int):List W->M W:=Df 2 2 (Pa ns)
theorem Yo (ns:List Int):Dp (An Eo) ((md ns).gm (Mr ns) O9 (Ad Eo))=Pa ns:=by kernel_rfl
def K1 (ns:List Int):List (Str×Fi):=("is_tuple_of",⟨G7 ns,2,[]⟩)::Mr ns
theorem Xj:Bg O9 ["thing","many"] (Ad Eo):=⟨rfl,rfl,rfl,by decide +kernel,rfl,by decide +kernel,by decide +kernel⟩
abbrev Io:Stmt:=top 37
def Z5:List Str:=["thing"]
def Z6 (ns:List Int):MS:=(Ak (ifS (Ams (Az (Ah (Jq isa) (Aa (Ac 0) (Aa (kF (.ty "tuple")) nilF)))) (Ams (Az (Bc .Gt (Ah (Cv ns) (Aa (Ac 0) nilF)) (kF (.int 0)))) (Az (Ah (Jq isa) (Aa (ixF ns (Ac 0) (kF (.int 0))) (Aa (kF (.ty "str")) nilF)))))) (Ak (retS (ixF ns (Ac 0) (kF (.int 0))))
  Am) Am)
 (Ak (retS (kF .non))
 Am))
def O2 (ns:List Int):List W->M W:=Df 1 1 (Z6 ns)
theorem Akh (ns:List Int):Dp (An Io) ((md ns).gm (K1 ns) Z5 (Ad Io))=Z6 ns:=by kernel_rfl
def Tr (ns:List Int):List (Str×Fi):=("word_of",⟨O2 ns,1,[]⟩)::K1 ns
theorem Ago:Bg Z5 ["thing"] (Ad Io):=⟨rfl,rfl,rfl,by decide +kernel,rfl,by decide +kernel,by decide +kernel⟩
abbrev Dh:Stmt:=top 38
def Kq:List Str:=["keys"]
def Kr (ns:List Int):MS:=(Ak (ifS (Mh (Az (Ah Ws (Aa (Cy 1 [] (Eh ns (Ac 0)) (Cr 0) (fun _=>pure true) (Ah (Lq ns) (Aa (Ac 0) nilF))) nilF)))) (Ak (retS (kF (.bl false)))
  Am) Am)
 (Ak (retS (Ah Ws (Aa (Cy 2 [] (Aj1 (Aa (Ac 0) (Aa (slF ns (Ac 0) (Fx (kF (.int 1))) Ed) nilF))) (Q5 [0,1]) (fun _=>pure true) (Bc .Lt (Ac 0) (Ac 1))) nilF)))
 Am))
def Dr (ns:List Int):List W->M W:=Df 1 1 (Kr ns)
theorem Rh (ns:List Int):Dp (An Dh) ((md ns).gm (Tr ns) Kq (Ad Dh))=Kr ns:=by kernel_rfl
def Hx (ns:List Int):List (Str×Fi):=("are_rising_keys",⟨Dr ns,1,[]⟩)::Tr ns
theorem Qk:Bg Kq ["keys"] (Ad Dh):=⟨rfl,rfl,rfl,by decide +kernel,rfl,by decide +kernel,by decide +kernel⟩
abbrev Ip:Stmt:=top 39
def Z7:List Str:=["thing","word"]
def Z8 (ns:List Int):MS:=(Ak (Bx 1 (Ah (O2 ns) (Aa (Ac 0) nilF)))
 (Ak (ifS (Az (Bc .Eq (Ac 1) (kF (.str "in")))) (Ak (retS (Gx (Bc .Eq (Ah (Cv ns) (Aa (Ac 0) nilF)) (kF (.int 2))) (Ah (Ju ns) (Aa (ixF ns (Ac 0) (kF (.int 1))) (Aa (kF (.int 0)) (Aa (kF (.int 63)) nilF))))))
  Am) Am)
 (Ak (ifS (Az (Bc .Eq (Ac 1) (kF (.str "out")))) (Ak (retS (Gx (Bc .Eq (Ah (Cv ns) (Aa (Ac 0) nilF)) (kF (.int 3))) (Gx (Ah (Gb ns) (Aa (ixF ns (Ac 0) (kF (.int 1))) nilF)) (Gx (J3 .LtE .LtE (kF (.int 1)) (ixF ns (Ac 0) (kF (.int 1))) (kF (.int 400))) (Ah (Dv ns) (Aa (ixF ns (Ac 0) (kF (.int 2))) (Aa (kF (.int 1)) nilF)))))))
  Am) Am)
 (Ak (retS (kF (.bl false)))
 Am))))
def O3 (ns:List Int):List W->M W:=Df 1 2 (Z8 ns)
theorem Aki (ns:List Int):Dp (An Ip) ((md ns).gm (Hx ns) Z7 (Ad Ip))=Z8 ns:=by kernel_rfl
def Tt (ns:List Int):List (Str×Fi):=("is_cell",⟨O3 ns,1,[]⟩)::Hx ns
theorem Agp:Bg Z7 ["thing"] (Ad Ip):=⟨rfl,rfl,rfl,by decide +kernel,rfl,by decide +kernel,by decide +kernel⟩
abbrev Hi:Stmt:=top 40
def Xk:List Str:=["thing"]
def Xl (ns:List Int):MS:=(Ak (ifS (orT (Mh (Az (Ah (Jq isa) (Aa (Ac 0) (Aa (kF (.ty "tuple")) nilF))))) (Az (Bc .Gt (Ah (Cv ns) (Aa (Ac 0) nilF)) (kF (.int 63))))) (Ak (retS (kF (.bl false)))
  Am) Am)
 (Ak (ifS (Mh (Az (Ah Ws (Aa (Cy 1 [] (Eh ns (Ac 0)) (Cr 0) (fun _=>pure true) (Gx (Ah (G7 ns) (Aa (Ac 0) (Aa (kF (.int 2)) nilF))) (Ah (O3 ns) (Aa (ixF ns (Ac 0) (kF (.int 1))) nilF)))) nilF)))) (Ak (retS (kF (.bl false)))
  Am) Am)
 (Ak (retS (Ah (Dr ns) (Aa (Cy 1 [] (Eh ns (Ac 0)) (Cr 0) (fun _=>pure true) (ixF ns (Ac 0) (kF (.int 0)))) nilF)))
 Am)))
def Ql (ns:List Int):List W->M W:=Df 1 1 (Xl ns)
theorem Agq (ns:List Int):Dp (An Hi) ((md ns).gm (Tt ns) Xk (Ad Hi))=Xl ns:=by kernel_rfl
def Qm (ns:List Int):List (Str×Fi):=("are_rows",⟨Ql ns,1,[]⟩)::Tt ns
theorem Aeh:Bg Xk ["thing"] (Ad Hi):=⟨rfl,rfl,rfl,by decide +kernel,rfl,by decide +kernel,by decide +kernel⟩
abbrev Hj:Stmt:=top 41
def Xm:List Str:=["thing"]
def Xn (ns:List Int):MS:=(Ak (retS (Gx (Ah (Jq isa) (Aa (Ac 0) (Aa (kF (.ty "tuple")) nilF))) (Gx (Bc .LtE (Ah (Cv ns) (Aa (Ac 0) nilF)) (kF (.int 63))) (Ah (Dr ns) (Aa (Ac 0) nilF)))))
 Am)
def Qn (ns:List Int):List W->M W:=Df 1 1 (Xn ns)
theorem Agr (ns:List Int):Dp (An Hj) ((md ns).gm (Qm ns) Xm (Ad Hj))=Xn ns:=by kernel_rfl
def Qo (ns:List Int):List (Str×Fi):=("are_keys",⟨Qn ns,1,[]⟩)::Qm ns
theorem Aei:Bg Xm ["thing"] (Ad Hj):=⟨rfl,rfl,rfl,by decide +kernel,rfl,by decide +kernel,by decide +kernel⟩
abbrev Hk:Stmt:=top 42
def Xo:List Str:=["thing","many"]
def Xp (ns:List Int):MS:=(Ak (retS (Gx (Ah (G7 ns) (Aa (Ac 0) (Aa (Ac 1) nilF))) (Ah Ws (Aa (Cy 1 [] (Eh ns (Ac 0)) (Cr 0) (fun _=>pure true) (Ah (Dv ns) (Aa (Ac 0) (Aa (kF (.int 1)) nilF)))) nilF))))
 Am)
def Qp (ns:List Int):List W->M W:=Df 2 2 (Xp ns)
theorem Ags (ns:List Int):Dp (An Hk) ((md ns).gm (Qo ns) Xo (Ad Hk))=Xp ns:=by kernel_rfl
def Qq (ns:List Int):List (Str×Fi):=("are_kids",⟨Qp ns,2,[]⟩)::Qo ns
theorem Aej:Bg Xo ["thing","many"] (Ad Hk):=⟨rfl,rfl,rfl,by decide +kernel,rfl,by decide +kernel,by decide +kernel⟩
abbrev Ir:Stmt:=top 43
def Z9:List Str:=["thing","word"]
def Aaa (ns:List Int):MS:=(Ak (Bx 1 (Ah (O2 ns) (Aa (Ac 0) nilF)))
 (Ak (ifS (Az (Bc .Eq (Ac 1) (kF (.str "head")))) (Ak (retS (Gx (Bc .Eq (Ah (Cv ns) (Aa (Ac 0) nilF)) (kF (.int 5))) (Ah Ws (Aa (Cy 1 [] (Eh ns (slF ns (Ac 0) (Fx (kF (.int 1))) Ed)) (Cr 0) (fun _=>pure true) (Ah (fun ws=>Dv ns (ws ++ [(.int 0)])) (Aa (Ac 0) nilF))) nilF))))
  Am) Am)
 (Ak (ifS (Az (Bc .Eq (Ac 1) (kF (.str "leaf")))) (Ak (retS (Gx (Bc .Eq (Ah (Cv ns) (Aa (Ac 0) nilF)) (kF (.int 2))) (Ah (Ql ns) (Aa (ixF ns (Ac 0) (kF (.int 1))) nilF))))
  Am) Am)
 (Ak (ifS (Az (Bc .Eq (Ac 1) (kF (.str "fork")))) (Ak (retS (Gx (Bc .Eq (Ah (Cv ns) (Aa (Ac 0) nilF)) (kF (.int 3))) (Gx (Ah (Qn ns) (Aa (ixF ns (Ac 0) (kF (.int 1))) nilF)) (Ah (Qp ns) (Aa (ixF ns (Ac 0) (kF (.int 2))) (Aa (Ar .add (Ah (Cv ns) (Aa (ixF ns (Ac 0) (kF (.int 1))) nilF)) (kF (.int 1))) nilF))))))
  Am) Am)
 (Ak (ifS (Az (Bc .Eq (Ac 1) (kF (.str "rest")))) (Ak (retS (Gx (Bc .Eq (Ah (Cv ns) (Aa (Ac 0) nilF)) (kF (.int 3))) (Gx (Ah (Ju ns) (Aa (ixF ns (Ac 0) (kF (.int 1))) (Aa (kF (.int 1)) (Aa (kF (.int 400)) nilF)))) (Ah (fun ws=>Dv ns (ws ++ [(.int 0)])) (Aa (ixF ns (Ac 0) (kF (.int 2))) nilF)))))
  Am) Am)
 (Ak (ifS (Az (Bc .Eq (Ac 1) (kF (.str "free")))) (Ak (retS (Gx (Bc .Eq (Ah (Cv ns) (Aa (Ac 0) nilF)) (kF (.int 2))) (Ah (fun ws=>Dv ns (ws ++ [(.int 0)])) (Aa (ixF ns (Ac 0) (kF (.int 1))) nilF))))
  Am) Am)
 (Ak (retS (kF (.bl false)))
 Am)))))))
def O4 (ns:List Int):List W->M W:=Df 1 2 (Aaa ns)
theorem Akj (ns:List Int):Dp (An Ir) ((md ns).gm (Qq ns) Z9 (Ad Ir))=Aaa ns:=by kernel_rfl
def Tu (ns:List Int):List (Str×Fi):=("is_page",⟨O4 ns,1,[]⟩)::Qq ns
theorem Agt:Bg Z9 ["thing"] (Ad Ir):=⟨rfl,rfl,rfl,by decide +kernel,rfl,by decide +kernel,by decide +kernel⟩
abbrev Eb:Stmt:=top 44
def N5:List Str:=["numbers"]
def N6 (ns:List Int):MS:=(Ak (retS (Ji .str J2 (kF (.str "")) (Aa (Cy 1 [] (Eh ns (Ac 0)) (Cr 0) (fun _=>pure true) (Ah (Fo ns) (Aa (Ac 0) (Aa (kF (.int 2)) nilF)))) nilF)))
 Am)
def Et (ns:List Int):List W->M W:=Df 1 1 (N6 ns)
theorem Xq (ns:List Int):Dp (An Eb) ((md ns).gm (Tu ns) N5 (Ad Eb))=N6 ns:=by kernel_rfl
def J9 (ns:List Int):List (Str×Fi):=("numbers_text",⟨Et ns,1,[]⟩)::Tu ns
theorem Vh:Bg N5 ["numbers"] (Ad Eb):=⟨rfl,rfl,rfl,by decide +kernel,rfl,by decide +kernel,by decide +kernel⟩
abbrev Hl:Stmt:=top 45
def Xr:List Str:=["key"]
def Xu (ns:List Int):MS:=(Ak (retS (Ar .add (Ah (Fo ns) (Aa (Ah (Cv ns) (Aa (Ac 0) nilF)) (Aa (kF (.int 1)) nilF))) (Ac 0)))
 Am)
def Ka (ns:List Int):List W->M W:=Df 1 1 (Xu ns)
theorem Agu (ns:List Int):Dp (An Hl) ((md ns).gm (J9 ns) Xr (Ad Hl))=Xu ns:=by kernel_rfl
def Qs (ns:List Int):List (Str×Fi):=("key_text",⟨Ka ns,1,[]⟩)::J9 ns
theorem Aek:Bg Xr ["key"] (Ad Hl):=⟨rfl,rfl,rfl,by decide +kernel,rfl,by decide +kernel,by decide +kernel⟩
abbrev Gd:Stmt:=top 46
def Uq:List Str:=["cell"]
def Ur (ns:List Int):MS:=(Ak (ifS (Az (Bc .Eq (ixF ns (Ac 0) (kF (.int 0))) (kF (.str "in")))) (Ak (retS (Ar .add (Ar .add (kF (.str "i")) (Ah (Fo ns) (Aa (Ah (Cv ns) (Aa (ixF ns (Ac 0) (kF (.int 1))) nilF)) (Aa (kF (.int 1)) nilF)))) (ixF ns (Ac 0) (kF (.int 1)))))
  Am) Am)
 (Ak (retS (Ar .add (kF (.str "o")) (Ah (Et ns) (Aa (slF ns (Ac 0) (Fx (kF (.int 1))) Ed) nilF))))
 Am))
def N7 (ns:List Int):List W->M W:=Df 1 1 (Ur ns)
theorem Ael (ns:List Int):Dp (An Gd) ((md ns).gm (Qs ns) Uq (Ad Gd))=Ur ns:=by kernel_rfl
def N8 (ns:List Int):List (Str×Fi):=("cell_text",⟨N7 ns,1,[]⟩)::Qs ns
theorem Aby:Bg Uq ["cell"] (Ad Gd):=⟨rfl,rfl,rfl,by decide +kernel,rfl,by decide +kernel,by decide +kernel⟩
abbrev Hm:Stmt:=top 47
def Xv:List Str:=["row"]
def Xw (ns:List Int):MS:=(Ak (retS (Ar .add (Ah (Ka ns) (Aa (ixF ns (Ac 0) (kF (.int 0))) nilF)) (Ah (N7 ns) (Aa (ixF ns (Ac 0) (kF (.int 1))) nilF))))
 Am)
def Ms (ns:List Int):List W->M W:=Df 1 1 (Xw ns)
theorem Agv (ns:List Int):Dp (An Hm) ((md ns).gm (N8 ns) Xv (Ad Hm))=Xw ns:=by kernel_rfl
def Qt (ns:List Int):List (Str×Fi):=("row_text",⟨Ms ns,1,[]⟩)::N8 ns
theorem Aem:Bg Xv ["row"] (Ad Hm):=⟨rfl,rfl,rfl,by decide +kernel,rfl,by decide +kernel,by decide +kernel⟩
abbrev Ge:Stmt:=top 48
def Us:List Str:=["page","keys"]
def Ut (ns:List Int):MS:=(Ak (ifS (Az (Bc .Eq (ixF ns (Ac 0) (kF (.int 0))) (kF (.str "leaf")))) (Ak (retS (Ar .add (Ah (Fo ns) (Aa (Ah (Cv ns) (Aa (ixF ns (Ac 0) (kF (.int 1))) nilF)) (Aa (kF (.int 1)) nilF))) (Ji .str J2 (kF (.str "")) (Aa (Cy 1 [] (Eh ns (ixF ns (Ac 0) (kF (.int 1)))) (Cr 0) (fun _=>pure true) (Ah (Ms ns) (Aa (Ac 0) nilF))) nilF))))
  Am) Am)
 (Ak (ifS (Az (Bc .Eq (ixF ns (Ac 0) (kF (.int 0))) (kF (.str "fork")))) (Ak (Bx 1 (Ji .str J2 (kF (.str "")) (Aa (Cy 1 [] (Eh ns (ixF ns (Ac 0) (kF (.int 1)))) (Cr 0) (fun _=>pure true) (Ah (Ka ns) (Aa (Ac 0) nilF))) nilF)))
  (Ak (retS (Ar .add (Ar .add (Ah (Fo ns) (Aa (Ah (Cv ns) (Aa (ixF ns (Ac 0) (kF (.int 1))) nilF)) (Aa (kF (.int 1)) nilF))) (Ac 1)) (Ah (Et ns) (Aa (ixF ns (Ac 0) (kF (.int 2))) nilF))))
  Am)) Am)
 (Ak (ifS (Az (Bc .Eq (ixF ns (Ac 0) (kF (.int 0))) (kF (.str "rest")))) (Ak (retS (Ar .add (Ah (Et ns) (Aa (slF ns (Ac 0) (Fx (kF (.int 2))) Ed) nilF)) (ixF ns (Ac 0) (kF (.int 1)))))
  Am) Am)
 (Ak (retS (Ah (Et ns) (Aa (slF ns (Ac 0) (Fx (kF (.int 1))) Ed) nilF)))
 Am))))
def Oa (ns:List Int):List W->M W:=Df 1 2 (Ut ns)
theorem Aen (ns:List Int):Dp (An Ge) ((md ns).gm (Qt ns) Us (Ad Ge))=Ut ns:=by kernel_rfl
def Ob (ns:List Int):List (Str×Fi):=("body_text",⟨Oa ns,1,[]⟩)::Qt ns
theorem Abz:Bg Us ["page"] (Ad Ge):=⟨rfl,rfl,rfl,by decide +kernel,rfl,by decide +kernel,by decide +kernel⟩
abbrev Iu:Stmt:=top 49
def Aab:List Str:=["page"]
def Aac (ns:List Int):MS:=(Ak (ifS (Mh (Az (Ah (O4 ns) (Aa (Ac 0) nilF)))) (Ak (Mj 4 [] (Aa (kF .non) (Aa (kF (.str "no page")) nilF)))
  Am) Am)
 (Ak (retS (Ah (Oa ns) (Aa (Ac 0) nilF)))
 Am))
def Jy (ns:List Int):List W->M W:=Df 1 1 (Aac ns)
theorem Akk (ns:List Int):Dp (An Iu) ((md ns).gm (Ob ns) Aab (Ad Iu))=Aac ns:=by kernel_rfl
def Tv (ns:List Int):List (Str×Fi):=("body_of",⟨Jy ns,1,[]⟩)::Ob ns
theorem Agw:Bg Aab ["page"] (Ad Iu):=⟨rfl,rfl,rfl,by decide +kernel,rfl,by decide +kernel,by decide +kernel⟩
abbrev Dl:Stmt:=top 50
def Ls:List Str:=["page","body","size","start"]
def Lw (ns:List Int):MS:=(Ak (Bx 3 (Ar .add (Ar .add (mdF Fp (ixF ns (Ac 0) (kF (.int 0)))) (Ah (Fo ns) (Aa (Ah (Cv ns) (Aa (Ac 1) nilF)) (Aa (kF (.int 2)) nilF)))) (Ac 1)))
 (Ak (retS (Ji .str Abd (Ac 3) (Aa (Ar .sub (Ac 2) (kF (.int 2))) (Aa (kF (.str "0")) nilF))))
 Am))
def Iv (ns:List Int):List W->M W:=Df 3 4 (Lw ns)
theorem Tw (ns:List Int):Dp (An Dl) ((md ns).gm (Tv ns) Ls (Ad Dl))=Lw ns:=by kernel_rfl
def Iw (ns:List Int):List (Str×Fi):=("unchecked_text",⟨Iv ns,3,[]⟩)::Tv ns
theorem Ri:Bg Ls ["page","body","size"] (Ad Dl):=⟨rfl,rfl,rfl,by decide +kernel,rfl,by decide +kernel,by decide +kernel⟩
abbrev Gf:Stmt:=top 51
def Uu:List Str:=["page","size","body","text"]
def Uv (ns:List Int):MS:=(Ak (Bx 2 (Ah (Jy ns) (Aa (Ac 0) nilF)))
 (Ak (ifS (Mh (Az (Ah (Lr ns) (Aa (Ac 1) nilF)))) (Ak (Mi 3 (Aa (kF (.str "no size from 64 to 200")) nilF))
  Am) Am)
 (Ak (ifS (Az (Bc .Gt (Ah (Cv ns) (Aa (Ac 2) nilF)) (Ah (Tp ns) (Aa (Ac 1) nilF)))) (Ak (Mj 4 [] (Aa (kF .non) (Aa (kF (.str "a page that is too long for its size")) nilF)))
  Am) Am)
 (Ak (Bx 3 (Ah (Iv ns) (Aa (Ac 0) (Aa (Ac 2) (Aa (Ac 1) nilF)))))
 (Ak (retS (Ar .add (Ac 3) (Ah (Qi ns) (Aa (Ac 3) nilF))))
 Am)))))
def Dq (ns:List Int):List W->M W:=Df 2 4 (Uv ns)
theorem Aeo (ns:List Int):Dp (An Gf) ((md ns).gm (Iw ns) Uu (Ad Gf))=Uv ns:=by kernel_rfl
def Oc (ns:List Int):List (Str×Fi):=("page_text",⟨Dq ns,2,[]⟩)::Iw ns
theorem Ab0:Bg Uu ["page","size"] (Ad Gf):=⟨rfl,rfl,rfl,by decide +kernel,rfl,by decide +kernel,by decide +kernel⟩
abbrev Hn:Stmt:=top 52
def Xx:List Str:=["page","numbers"]
def Xy (ns:List Int):MS:=(Ak (ifS (Mh (Az (Ah (O4 ns) (Aa (Ac 0) nilF)))) (Ak (Mj 4 [] (Aa (kF .non) (Aa (kF (.str "no page")) nilF)))
  Am) Am)
 (Ak (ifS (Az (Bc .Eq (ixF ns (Ac 0) (kF (.int 0))) (kF (.str "head")))) (Ak (Bx 1 (Jo (Aa (ixF ns (Ac 0) (kF (.int 1))) (Aa (ixF ns (Ac 0) (kF (.int 4))) nilF))))
  Am) (Ak (ifS (Az (Bc .Eq (ixF ns (Ac 0) (kF (.int 0))) (kF (.str "leaf")))) (Ak (Bx 1 (Cy 1 [] (Eh ns (ixF ns (Ac 0) (kF (.int 1)))) (Cr 0) (Az (Bc .Eq (ixF ns (ixF ns (Ac 0) (kF (.int 1))) (kF (.int 0))) (kF (.str "out")))) (ixF ns (ixF ns (Ac 0) (kF (.int 1))) (kF (.int 2)))))
   Am) (Ak (ifS (Az (Bc .Eq (ixF ns (Ac 0) (kF (.int 0))) (kF (.str "fork")))) (Ak (Bx 1 (Ah (Zh ns) (Aa (ixF ns (Ac 0) (kF (.int 2))) nilF)))
    Am) (Ak (Bx 1 (Jo (Aa (ixF ns (Ac 0) (Adn (kF (.int 1)))) nilF)))
    Am))
   Am))
  Am))
 (Ak (retS (Cy 1 [] (Eh ns (Ac 1)) (Cr 0) (Az (Bc .NotEq (Ac 0) (kF (.int 0)))) (Ac 0)))
 Am)))
def Mt (ns:List Int):List W->M W:=Df 1 2 (Xy ns)
theorem Agx (ns:List Int):Dp (An Hn) ((md ns).gm (Oc ns) Xx (Ad Hn))=Xy ns:=by kernel_rfl
def Qu (ns:List Int):List (Str×Fi):=("leads_to",⟨Mt ns,1,[]⟩)::Oc ns
theorem Aep:Bg Xx ["page"] (Ad Hn):=⟨rfl,rfl,rfl,by decide +kernel,rfl,by decide +kernel,by decide +kernel⟩
abbrev Ec:Stmt:=top 54
def Od:List Str:=["_law_script","_law_k"]
def Oe (ns:List Int):MS:=(Ak (ifS (Az (Bc .Lt (Ac 1) (Ah (Cv ns) (Aa (Ac 0) nilF)))) (Ak (retS (ixF ns (Ac 0) (Ac 1)))
  Am) Am)
 (Ak (retS (kF (.int 0)))
 Am))
def Hy (ns:List Int):List W->M W:=Df 2 2 (Oe ns)
theorem Xz (ns:List Int):Dp (An Ec) ((md ns).gm (Qu ns) Od (Ad Ec))=Oe ns:=by kernel_rfl
def Kc (ns:List Int):List (Str×Fi):=("_law_cell_at",⟨Hy ns,2,[]⟩)::Qu ns
theorem Vi:Bg Od ["_law_script","_law_k"] (Ad Ec):=⟨rfl,rfl,rfl,by decide +kernel,rfl,by decide +kernel,by decide +kernel⟩
abbrev Gg:Stmt:=top 55
def Uw:List Str:=["_law_state","_law_k","_law_cell_here"]
def Og (ns:List Int):MS:=(Ak (Wy (Ac 0) (kF (.str "at")) (Ar .add (ixF ns (Ac 0) (kF (.str "at"))) (kF (.int 1))))
 (Ak (Bx 1 (ixF ns (Ac 0) (kF (.str "at"))))
 (Ak (Bx 2 (Ah (Hy ns) (Aa (ixF ns (Ac 0) (kF (.str "cells"))) (Aa (Ar .mod (Ac 1) (Ah Aq4 (Aa (kF (.int 1)) (Aa (Ah (Cv ns) (Aa (ixF ns (Ac 0) (kF (.str "cells"))) nilF)) nilF)))) nilF))))
 (Ak (retS (Ar .fdiv (Ar .mod (Ar .add (Ar .mul (Ac 2) (kF (.int 48271))) (Ar .mul (Ar .mul (Ac 1) (Ac 1)) (kF (.int 69621)))) (kF (.int 2147483647))) (kF (.int 8))))
 Am))))
def Bv (ns:List Int):List W->M W:=Df 1 3 (Og ns)
theorem Aeq (ns:List Int):Dp (An Gg) ((md ns).gm (Kc ns) Uw (Ad Gg))=Og ns:=by kernel_rfl
def Oh (ns:List Int):List (Str×Fi):=("_law_next",⟨Bv ns,1,[]⟩)::Kc ns
theorem Ab1:Bg Uw ["_law_state"] (Ad Gg):=⟨rfl,rfl,rfl,by decide +kernel,rfl,by decide +kernel,by decide +kernel⟩
abbrev Fb:Stmt:=top 56
def Rj:List Str:=["_law_found","_law_due"]
def Rk (ns:List Int):MS:=(Ak (retS (Gx (Ah (Jq isa) (Aa (Ac 0) (Aa (kF (.ty "int")) nilF))) (Gx (Ajr (Ah (Jq isa) (Aa (Ac 0) (Aa (kF (.ty "bool")) nilF)))) (Bc .Eq (Ac 0) (Ac 1)))))
 Am)
def Jv (ns:List Int):List W->M W:=Df 2 2 (Rk ns)
theorem Ab2 (ns:List Int):Dp (An Fb) ((md ns).gm (Oh ns) Rj (Ad Fb))=Rk ns:=by kernel_rfl
def Mu (ns:List Int):List (Str×Fi):=("_law_whole",⟨Jv ns,2,[]⟩)::Oh ns
theorem Yp:Bg Rj ["_law_found","_law_due"] (Ad Fb):=⟨rfl,rfl,rfl,by decide +kernel,rfl,by decide +kernel,by decide +kernel⟩
abbrev Fd:Stmt:=top 57
def Rm:List Str:=["_law_some"]
def Rn (ns:List Int):MS:=(Ak (Bx 0 (kF (.str "0123456789abcdefghijklmnopqrstuvwxyzABCDEFGHIJKLMNOPQRSTUVWXYZ")))
 (Ak (retS (Ar .add (kF (.str " !\"#$&'()*+,-./:;<=>?\x40[\\]^_`{|}~")) (Ac 0)))
 Am))
def Jw (ns:List Int):List W->M W:=Df 0 1 (Rn ns)
theorem Ab3 (ns:List Int):Dp (An Fd) ((md ns).gm (Mu ns) Rm (Ad Fd))=Rn ns:=by kernel_rfl
def Mv (ns:List Int):List (Str×Fi):=("_law_signs",⟨Jw ns,0,[]⟩)::Mu ns
theorem Yq:Bg Rm [] (Ad Fd):=⟨rfl,rfl,rfl,by decide +kernel,rfl,by decide +kernel,by decide +kernel⟩
abbrev Gh:Stmt:=top 58
def Ux:List Str:=["_law_number","_law_size","_law_signs_here","_law_many"]
def Uy (ns:List Int):MS:=(Ak (Bx 2 (Ah (Jw ns) nilF))
 (Ak (Bx 3 (Ah (Cv ns) (Aa (Ac 2) nilF)))
 (Ak (retS (Ji .str J2 (kF (.str "")) (Aa (Cy 1 [3,0,2] (Lh Hq (Aa (Ac 1) nilF)) (Cr 0) (fun _=>pure true) (ixF ns (Ac 3) (Ar .mod (Ar .add (Ar .add (Ar .fdiv (Ac 2) (kF (.int 7))) (Ar .mul (Ar .mul (kF (.int 13)) (Ac 0)) (Ac 0))) (Ar .mul (kF (.int 5)) (Ac 0))) (Ac 1)))) nilF)))
 Am)))
def Jg (ns:List Int):List W->M W:=Df 2 4 (Uy ns)
theorem Aer (ns:List Int):Dp (An Gh) ((md ns).gm (Mv ns) Ux (Ad Gh))=Uy ns:=by kernel_rfl
def Oi (ns:List Int):List (Str×Fi):=("_law_text",⟨Jg ns,2,[]⟩)::Mv ns
theorem Ab4:Bg Ux ["_law_number","_law_size"] (Ad Gh):=⟨rfl,rfl,rfl,by decide +kernel,rfl,by decide +kernel,by decide +kernel⟩
abbrev Ep:Stmt:=top 59
def Pb:List Str:=["_law_number","_law_many","_law_signs_here","_law_found","_law_k"]
def Ph (ns:List Int):MS:=(Ak (Bx 2 (kF (.str "0123456789abcdefghijklmnopqrstuvwxyzABCDEFGHIJKLMNOPQRSTUVWXYZ+-")))
 (Ak (Bx 3 (kF (.str "")))
 (Ak (Vd (Lh Hq (Aa (Ac 1) nilF)) (Cr 4) (Ak (Bx 3 (Ar .add (ixF ns (Ac 2) (Ar .mod (Ac 0) (kF (.int 64)))) (Ac 3)))
  (Ak (Bx 0 (Ar .fdiv (Ac 0) (kF (.int 64))))
  Am)))
 (Ak (retS (Ac 3))
 Am))))
def Be (ns:List Int):List W->M W:=Df 2 5 (Ph ns)
theorem Yr (ns:List Int):Dp (An Ep) ((md ns).gm (Oi ns) Pb (Ad Ep))=Ph ns:=by kernel_rfl
def K3 (ns:List Int):List (Str×Fi):=("_law_digits",⟨Be ns,2,[]⟩)::Oi ns
theorem X3:Bg Pb ["_law_number","_law_many"] (Ad Ep):=⟨rfl,rfl,rfl,by decide +kernel,rfl,by decide +kernel,by decide +kernel⟩
abbrev Fe:Stmt:=top 60
def Ro:List Str:=["_law_text_here","_law_order","_law_found","_law_k","_law_sign","_law_place"]
def Rp (ns:List Int):MS:=(Ak (Bx 1 (kF (.str " !\"#$?&'()*+,-./0123456789:;<=>?@ABCDEFGHIJKLMNOPQRSTUVWXYZ[\\]^_`abcdefghijklmnopqrstuvwxyz{|}~")))
 (Ak (Bx 2 (kF (.int 0)))
 (Ak (Vd (Lh Hq (Aa (Ah (Cv ns) (Aa (Ac 0) nilF)) nilF)) (Cr 3) (Ak (Bx 4 (ixF ns (Ac 0) (Ac 3)))
  (Ak (Bx 5 (Ji .str Amp (Ac 1) (Aa (Ac 4) nilF)))
  (Ak (ifS (Az (Bc .Eq (Ac 4) (kF (.str "?")))) (Ak (Bx 5 (Ji .str Afz (Ac 1) (Aa (Ac 4) nilF)))
   Am) Am)
  (Ak (Bx 2 (Ar .add (Ac 2) (Ar .mul (Ar .add (Ac 5) (kF (.int 1))) (Ar .add (Ac 3) (kF (.int 1))))))
  Am)))))
 (Ak (retS (Ah (Be ns) (Aa (Ar .mod (Ac 2) (kF (.int 4093))) (Aa (kF (.int 2)) nilF))))
 Am))))
def Mw (ns:List Int):List W->M W:=Df 1 6 (Rp ns)
theorem Ab5 (ns:List Int):Dp (An Fe) ((md ns).gm (K3 ns) Ro (Ad Fe))=Rp ns:=by kernel_rfl
def Mx (ns:List Int):List (Str×Fi):=("_law_check",⟨Mw ns,1,[]⟩)::K3 ns
theorem Ys:Bg Ro ["_law_text_here"] (Ad Fe):=⟨rfl,rfl,rfl,by decide +kernel,rfl,by decide +kernel,by decide +kernel⟩
abbrev Er:Stmt:=top 61
def Pj:List Str:=["_law_state","_law_many","_law_base","_law_found","_law_turn","_law_number","_law_size","_law_at","_law_signs_here","_law_sign"]
def Pk (ns:List Int):MS:=(Ak (Bx 2 (Ah (Jg ns) (Aa (Ah (Bv ns) (Aa (Ac 0) nilF)) (Aa (kF (.int 12)) nilF))))
 (Ak (Bx 3 (Nk []))
 (Ak (Vd (Lh Hq (Aa (Ac 1) nilF)) (Cr 4) (Ak (Bx 5 (Ah (Bv ns) (Aa (Ac 0) nilF)))
  (Ak (Bx 6 (ixF ns (Jo (Aa (kF (.int 1)) (Aa (kF (.int 12)) (Aa (Ar .add (kF (.int 1)) (Ar .mod (Ar .fdiv (Ac 5) (kF (.int 5))) (kF (.int 12)))) (Aa (kF (.int 3)) (Aa (Ar .add (kF (.int 2)) (Ar .mod (Ar .fdiv (Ac 5) (kF (.int 5))) (kF (.int 3)))) nilF)))))) (Ar .mod (Ac 5) (kF (.int 5)))))
  (Ak (Bx 7 (Ar .mod (Ar .fdiv (Ac 5) (kF (.int 60))) (Ac 6)))
  (Ak (Bx 8 (Ah (Jw ns) nilF))
  (Ak (Bx 9 (ixF ns (Ac 8) (Ar .mod (Ar .fdiv (Ac 5) (kF (.int 720))) (Ah (Cv ns) (Aa (Ac 8) nilF)))))
  (Ak (Wy (Ac 3) (Ar .add (Ar .add (slF ns (Ac 2) Ed (Fx (Ac 7))) (Ac 9)) (slF ns (Ac 2) (Fx (Ar .add (Ac 7) (kF (.int 1)))) (Fx (Ac 6)))) (kF (.bl true)))
  Am)))))))
 (Ak (retS (Ah Jp (Aa (Ac 3) nilF)))
 Am))))
def K6 (ns:List Int):List W->M W:=Df 2 10 (Pk ns)
theorem Yt (ns:List Int):Dp (An Er) ((md ns).gm (Mx ns) Pj (Ad Er))=Pk ns:=by kernel_rfl
def K7 (ns:List Int):List (Str×Fi):=("_law_rising",⟨K6 ns,2,[]⟩)::Mx ns
theorem X4:Bg Pj ["_law_state","_law_many"] (Ad Er):=⟨rfl,rfl,rfl,by decide +kernel,rfl,by decide +kernel,by decide +kernel⟩
abbrev Gi:Stmt:=top 62
def Uz:List Str:=["_law_state","_law_size","_law_number"]
def U0 (ns:List Int):MS:=(Ak (Bx 2 (Ah (Bv ns) (Aa (Ac 0) nilF)))
 (Ak (ifS (Az (Bc .Eq (Ar .mod (Ac 2) (kF (.int 3))) (kF (.int 0)))) (Ak (retS (Jh (Aa (kF (.str "out")) (Aa (Ar .add (kF (.int 1)) (Ar .mod (Ar .fdiv (Ac 2) (kF (.int 3))) (kF (.int 400)))) (Aa (Ar .add (kF (.int 1)) (Ar .mod (Ar .fdiv (Ac 2) (kF (.int 1200))) (kF (.int 4095)))) nilF)))))
  Am) Am)
 (Ak (retS (Jh (Aa (kF (.str "in")) (Aa (Ah (Jg ns) (Aa (Ac 2) (Aa (ixF ns (Jo (Aa (kF (.int 0)) (Aa (kF (.int 1)) (Aa (Ar .fdiv (Ac 1) (kF (.int 8))) (Aa (Ar .mod (Ar .fdiv (Ac 2) (kF (.int 30))) (Ar .add (Ar .fdiv (Ac 1) (kF (.int 8))) (kF (.int 1)))) nilF))))) (Ar .mod (Ar .fdiv (Ac 2) (kF (.int 3))) (kF (.int 4)))) nilF))) nilF))))
 Am)))
def Ks (ns:List Int):List W->M W:=Df 2 3 (U0 ns)
theorem Aes (ns:List Int):Dp (An Gi) ((md ns).gm (K7 ns) Uz (Ad Gi))=U0 ns:=by kernel_rfl
def Oj (ns:List Int):List (Str×Fi):=("_law_cell",⟨Ks ns,2,[]⟩)::K7 ns
theorem Ab6:Bg Uz ["_law_state","_law_size"] (Ad Gi):=⟨rfl,rfl,rfl,by decide +kernel,rfl,by decide +kernel,by decide +kernel⟩
abbrev Gj:Stmt:=top 64
def U7:List Str:=["_law_page_here","_law_found","_law_key","_law_cell_here"]
def U8 (ns:List Int):MS:=(Ak (ifS (Az (Bc .Eq (ixF ns (Ac 0) (kF (.int 0))) (kF (.str "rest")))) (Ak (retS (Ar .add (Ah (Be ns) (Aa (ixF ns (Ac 0) (kF (.int 2))) (Aa (kF (.int 2)) nilF))) (ixF ns (Ac 0) (kF (.int 1)))))
  Am) Am)
 (Ak (ifS (orT (Az (Bc .Eq (ixF ns (Ac 0) (kF (.int 0))) (kF (.str "head")))) (Az (Bc .Eq (ixF ns (Ac 0) (kF (.int 0))) (kF (.str "free"))))) (Ak (retS (Ji .str J2 (kF (.str "")) (Aa (Cy 1 [] (Eh ns (slF ns (Ac 0) (Fx (kF (.int 1))) Ed)) (Cr 0) (fun _=>pure true) (Ah (Be ns) (Aa (Ac 0) (Aa (kF (.int 2)) nilF)))) nilF)))
  Am) Am)
 (Ak (Bx 1 (Ah (Be ns) (Aa (Ah (Cv ns) (Aa (ixF ns (Ac 0) (kF (.int 1))) nilF)) (Aa (kF (.int 1)) nilF))))
 (Ak (ifS (Az (Bc .Eq (ixF ns (Ac 0) (kF (.int 0))) (kF (.str "fork")))) (Ak (Vd (Eh ns (ixF ns (Ac 0) (kF (.int 1)))) (Cr 2) (Ak (Bx 1 (Ar .add (Ar .add (Ac 1) (Ah (Be ns) (Aa (Ah (Cv ns) (Aa (Ac 2) nilF)) (Aa (kF (.int 1)) nilF)))) (Ac 2)))
   Am))
  (Ak (retS (Ar .add (Ac 1) (Ji .str J2 (kF (.str "")) (Aa (Cy 1 [] (Eh ns (ixF ns (Ac 0) (kF (.int 2)))) (Cr 0) (fun _=>pure true) (Ah (Be ns) (Aa (Ac 0) (Aa (kF (.int 2)) nilF)))) nilF))))
  Am)) Am)
 (Ak (Vd (Eh ns (ixF ns (Ac 0) (kF (.int 1)))) (Q5 [2,3]) (Ak (Bx 1 (Ar .add (Ar .add (Ac 1) (Ah (Be ns) (Aa (Ah (Cv ns) (Aa (Ac 2) nilF)) (Aa (kF (.int 1)) nilF)))) (Ac 2)))
  (Ak (ifS (Az (Bc .Eq (ixF ns (Ac 3) (kF (.int 0))) (kF (.str "in")))) (Ak (Bx 1 (Ar .add (Ar .add (Ar .add (Ac 1) (kF (.str "i"))) (Ah (Be ns) (Aa (Ah (Cv ns) (Aa (ixF ns (Ac 3) (kF (.int 1))) nilF)) (Aa (kF (.int 1)) nilF)))) (ixF ns (Ac 3) (kF (.int 1)))))
   Am) (Ak (Bx 1 (Ar .add (Ar .add (Ar .add (Ac 1) (kF (.str "o"))) (Ah (Be ns) (Aa (ixF ns (Ac 3) (kF (.int 1))) (Aa (kF (.int 2)) nilF)))) (Ah (Be ns) (Aa (ixF ns (Ac 3) (kF (.int 2))) (Aa (kF (.int 2)) nilF)))))
   Am))
  Am)))
 (Ak (retS (Ac 1))
 Am))))))
def Dw (ns:List Int):List W->M W:=Df 1 4 (U8 ns)
theorem Aet (ns:List Int):Dp (An Gj) ((md ns).gm (Oj ns) U7 (Ad Gj))=U8 ns:=by kernel_rfl
def Ol (ns:List Int):List (Str×Fi):=("_law_body",⟨Dw ns,1,[]⟩)::Oj ns
theorem Ab7:Bg U7 ["_law_page_here"] (Ad Gj):=⟨rfl,rfl,rfl,by decide +kernel,rfl,by decide +kernel,by decide +kernel⟩
abbrev Gk:Stmt:=top 63
def U9:List Str:=["_law_state","_law_size","_law_number","_law_kind","_law_some","_law_many","_law_keys","_law_rows"]
def Va (ns:List Int):MS:=(Ak (Bx 2 (Ah (Bv ns) (Aa (Ac 0) nilF)))
 (Ak (Bx 3 (Ar .mod (Ac 2) (kF (.int 7))))
 (Ak (ifS (Az (Bc .Eq (Ac 3) (kF (.int 0)))) (Ak (Bx 4 (Cy 1 [0] (Lh Hq (Aa (kF (.int 4)) nilF)) (Cr 0) (fun _=>pure true) (ixF ns (Jo (Aa (kF (.int 4095)) (Aa (kF (.int 0)) (Aa (kF (.int 63)) (Aa (kF (.int 64)) (Aa (Ar .mod (Ah (Bv ns) (Aa (Ac 1) nilF)) (kF (.int 4096))) nilF)))))) (Ar .mod (Ah (Bv ns) (Aa (Ac 1) nilF)) (kF (.int 5))))))
  (Ak (retS (Ar .add (Jh (Aa (kF (.str "head")) nilF)) (Ah (Em ns) (Aa (Ac 4) nilF))))
  Am)) Am)
 (Ak (ifS (Az (Bc .Eq (Ac 3) (kF (.int 1)))) (Ak (retS (Jh (Aa (kF (.str "free")) (Aa (ixF ns (Jo (Aa (kF (.int 0)) (Aa (kF (.int 1)) (Aa (kF (.int 4095)) (Aa (Ar .mod (Ar .fdiv (Ac 2) (kF (.int 7))) (kF (.int 4096))) nilF))))) (Ar .mod (Ar .fdiv (Ac 2) (kF (.int 7))) (kF (.int 4)))) nilF))))
  Am) Am)
 (Ak (ifS (Az (Bc .Eq (Ac 3) (kF (.int 2)))) (Ak (Bx 5 (ixF ns (Jo (Aa (kF (.int 1)) (Aa (Ar .sub (Ac 1) (kF (.int 7))) (Aa (Ar .add (kF (.int 1)) (Ar .mod (Ar .fdiv (Ac 2) (kF (.int 7))) (Ar .sub (Ac 1) (kF (.int 7))))) nilF)))) (Ar .mod (Ar .fdiv (Ac 2) (kF (.int 7))) (kF (.int 3)))))
  (Ak (retS (Jh (Aa (kF (.str "rest")) (Aa (Ah (Jg ns) (Aa (Ac 2) (Aa (Ac 5) nilF))) (Aa (ixF ns (Jo (Aa (kF (.int 0)) (Aa (Ar .mod (Ar .fdiv (Ac 2) (kF (.int 21))) (kF (.int 4096))) nilF))) (Ar .mod (Ar .fdiv (Ac 2) (kF (.int 7))) (kF (.int 2)))) nilF)))))
  Am)) Am)
 (Ak (Bx 6 (Ah (K6 ns) (Aa (Ac 0) (Aa (Ar .mod (Ar .fdiv (Ac 2) (kF (.int 7))) (kF (.int 14))) nilF))))
 (Ak (ifS (Az (Bc .Lt (Ac 3) (kF (.int 5)))) (Ak (Bx 7 (Cy 1 [1,0] (Eh ns (Ac 6)) (Cr 0) (fun _=>pure true) (Jh (Aa (Ac 0) (Aa (Ah (Ks ns) (Aa (Ac 2) (Aa (Ac 1) nilF))) nilF)))))
  (Ak (Fy (Az (Bc .Gt (Ah (Cv ns) (Aa (Ah (Dw ns) (Aa (Jh (Aa (kF (.str "leaf")) (Aa (Ah (Em ns) (Aa (Ac 7) nilF)) nilF))) nilF)) nilF)) (Ar .sub (Ac 1) (kF (.int 5))))) (Ak (M7 (Ji .lst Mg (Ac 7) (Aa (Ar .mod (Ac 2) (Ah (Cv ns) (Aa (Ac 7) nilF))) nilF)))
   Am) fuel)
  (Ak (retS (Jh (Aa (kF (.str "leaf")) (Aa (Ah (Em ns) (Aa (Ac 7) nilF)) nilF))))
  Am))) Am)
 (Ak (Fy (Az (Bc .Gt (Ar .add (Ar .add (Ar .add (kF (.int 1)) (Ah Abb (Aa (Cy 1 [] (Eh ns (Ac 6)) (Cr 0) (fun _=>pure true) (Ar .add (kF (.int 1)) (Ah (Cv ns) (Aa (Ac 0) nilF)))) nilF))) (Ar .mul (kF (.int 2)) (Ah (Cv ns) (Aa (Ac 6) nilF)))) (kF (.int 2))) (Ar .sub (Ac 1) (kF (.int 5))))) (Ak (M7 (Ji .lst Mg (Ac 6) (Aa (Ar .mod (Ac 2) (Ah (Cv ns) (Aa (Ac 6) nilF))) nilF)))
  Am) fuel)
 (Ak (retS (Jh (Aa (kF (.str "fork")) (Aa (Ah (Em ns) (Aa (Ac 6) nilF)) (Aa (Ah (Em ns) (Aa (Cy 1 [0] (Lh Hq (Aa (Ar .add (Ah (Cv ns) (Aa (Ac 6) nilF)) (kF (.int 1))) nilF)) (Cr 0) (fun _=>pure true) (Ar .add (kF (.int 1)) (Ar .mod (Ah (Bv ns) (Aa (Ac 1) nilF)) (kF (.int 4095))))) nilF)) nilF)))))
 Am)))))))))
def Om (ns:List Int):List W->M W:=Df 2 8 (Va ns)
theorem Aeu (ns:List Int):Dp (An Gk) ((md ns).gm (Ol ns) U9 (Ad Gk))=Va ns:=by kernel_rfl
def Oo (ns:List Int):List (Str×Fi):=("_law_page",⟨Om ns,2,[]⟩)::Ol ns
theorem Ab8:Bg U9 ["_law_state","_law_size"] (Ad Gk):=⟨rfl,rfl,rfl,by decide +kernel,rfl,by decide +kernel,by decide +kernel⟩
abbrev Dm:Stmt:=top 65
def Lx:List Str:=["_law_page_here","_law_size","_law_body_here","_law_letter","_law_text_here"]
def Ly (ns:List Int):MS:=(Ak (Bx 2 (Ah (Dw ns) (Aa (Ac 0) nilF)))
 (Ak (Bx 3 (ixF ns (Nk [((kF (.str "head")),(kF (.str "h"))),((kF (.str "leaf")),(kF (.str "l"))),((kF (.str "fork")),(kF (.str "f"))),((kF (.str "rest")),(kF (.str "r"))),((kF (.str "free")),(kF (.str "e")))]) (ixF ns (Ac 0) (kF (.int 0)))))
 (Ak (Bx 4 (Ar .add (Ar .add (Ac 3) (Ah (Be ns) (Aa (Ah (Cv ns) (Aa (Ac 2) nilF)) (Aa (kF (.int 2)) nilF)))) (Ac 2)))
 (Ak (Bx 4 (Ar .add (Ac 4) (Ar .mul (kF (.str "0")) (Ar .sub (Ar .sub (Ac 1) (kF (.int 2))) (Ah (Cv ns) (Aa (Ac 4) nilF))))))
 (Ak (retS (Ar .add (Ac 4) (Ah (Mw ns) (Aa (Ac 4) nilF))))
 Am)))))
def Gu (ns:List Int):List W->M W:=Df 2 5 (Ly ns)
theorem Tz (ns:List Int):Dp (An Dm) ((md ns).gm (Oo ns) Lx (Ad Dm))=Ly ns:=by kernel_rfl
def Iz (ns:List Int):List (Str×Fi):=("_law_page_text",⟨Gu ns,2,[]⟩)::Oo ns
theorem Rq:Bg Lx ["_law_page_here","_law_size"] (Ad Dm):=⟨rfl,rfl,rfl,by decide +kernel,rfl,by decide +kernel,by decide +kernel⟩
abbrev Ff:Stmt:=top 66
def Rr:List Str:=["_law_page_here"]
def Rt (ns:List Int):MS:=(Ak (ifS (Az (Bc .Eq (ixF ns (Ac 0) (kF (.int 0))) (kF (.str "head")))) (Ak (retS (Cy 1 [] (Eh ns (Jo (Aa (ixF ns (Ac 0) (kF (.int 1))) (Aa (ixF ns (Ac 0) (kF (.int 4))) nilF)))) (Cr 0) (Az (Bc .Gt (Ac 0) (kF (.int 0)))) (Ac 0)))
  Am) Am)
 (Ak (ifS (Az (Bc .Eq (ixF ns (Ac 0) (kF (.int 0))) (kF (.str "leaf")))) (Ak (retS (Cy 2 [] (Eh ns (ixF ns (Ac 0) (kF (.int 1)))) (Q5 [0,1]) (Az (Bc .Eq (ixF ns (Ac 1) (kF (.int 0))) (kF (.str "out")))) (ixF ns (Ac 1) (kF (.int 2)))))
  Am) Am)
 (Ak (ifS (Az (Bc .Eq (ixF ns (Ac 0) (kF (.int 0))) (kF (.str "fork")))) (Ak (retS (Ah (Zh ns) (Aa (ixF ns (Ac 0) (kF (.int 2))) nilF)))
  Am) Am)
 (Ak (retS (Ac9 (Az (Bc .Gt (ixF ns (Ac 0) (Adn (kF (.int 1)))) (kF (.int 0)))) (Jo (Aa (ixF ns (Ac 0) (Adn (kF (.int 1)))) nilF)) (Jo nilF)))
 Am))))
def My (ns:List Int):List W->M W:=Df 1 1 (Rt ns)
theorem Ab9 (ns:List Int):Dp (An Ff) ((md ns).gm (Iz ns) Rr (Ad Ff))=Rt ns:=by kernel_rfl
def Mz (ns:List Int):List (Str×Fi):=("_law_leads",⟨My ns,1,[]⟩)::Iz ns
theorem Yu:Bg Rr ["_law_page_here"] (Ad Ff):=⟨rfl,rfl,rfl,by decide +kernel,rfl,by decide +kernel,by decide +kernel⟩
abbrev Fg:Stmt:=top 67
def Ru:List Str:=["_law_state","_law_page_here","_law_size","_law_rows","_law_kids","_law_keys"]
def Rv (ns:List Int):MS:=(Ak (ifS (Az (Bc .Eq (ixF ns (Ac 1) (kF (.int 0))) (kF (.str "rest")))) (Ak (retS (Jh (Aa (kF (.str "rest")) (Aa (Ar .add (ixF ns (Ac 1) (kF (.int 1))) (Ar .mul (kF (.str "x")) (Ar .add (Ar .add (Ar .sub (Ar .sub (Ac 2) (kF (.int 7))) (Ah (Cv ns) (Aa (ixF ns (Ac 1) (kF (.int 1))) nilF))) (kF (.int 1))) (Ar .mod (Ah (Bv ns) (Aa (Ac 0) nilF)) (kF (.int 2)))))) (Aa (ixF ns (Ac 1) (kF (.int 2))) nilF)))))
  Am) Am)
 (Ak (ifS (Az (Bc .Eq (ixF ns (Ac 1) (kF (.int 0))) (kF (.str "leaf")))) (Ak (Bx 3 (Jo nilF))
  (Ak (Fy (Az (Bc .LtE (Ah (Cv ns) (Aa (Ah (Dw ns) (Aa (Jh (Aa (kF (.str "leaf")) (Aa (Ah (Em ns) (Aa (Ac 3) nilF)) nilF))) nilF)) nilF)) (Ar .sub (Ac 2) (kF (.int 5))))) (Ak (M7 (Ji .lst Ox (Ac 3) (Aa (Jh (Aa (Ar .add (kF (.str "key")) (Ah (Be ns) (Aa (Ah (Cv ns) (Aa (Ac 3) nilF)) (Aa (kF (.int 2)) nilF)))) (Aa (Jh (Aa (kF (.str "in")) (Aa (Ar .mul (kF (.str "y")) (Ar .mod (Ah (Bv ns) (Aa (Ac 0) nilF)) (kF (.int 4)))) nilF))) nilF))) nilF)))
   Am) fuel)
  (Ak (retS (Jh (Aa (kF (.str "leaf")) (Aa (Ah (Em ns) (Aa (Ac 3) nilF)) nilF))))
  Am))) Am)
 (Ak (Bx 4 (kF (.int 1)))
 (Ak (Fy (Az (Bc .LtE (Ar .add (Ar .add (Ar .add (kF (.int 1)) (Ar .mul (kF (.int 3)) (Ac 4))) (Ar .mul (kF (.int 2)) (Ac 4))) (kF (.int 2))) (Ar .sub (Ac 2) (kF (.int 5))))) (Ak (Bx 4 (Ar .add (Ac 4) (kF (.int 1))))
  Am) fuel)
 (Ak (Bx 5 (Ah Jp (Aa (Cy 1 [] (Lh Hq (Aa (Ac 4) nilF)) (Cr 0) (fun _=>pure true) (Ar .add (kF (.str "z")) (Ah (Be ns) (Aa (Ac 0) (Aa (kF (.int 1)) nilF))))) nilF)))
 (Ak (retS (Jh (Aa (kF (.str "fork")) (Aa (Ah (Em ns) (Aa (Ac 5) nilF)) (Aa (Ah (Em ns) (Aa (Ar .mul (Jo (Aa (kF (.int 7)) nilF)) (Ar .add (Ac 4) (kF (.int 1)))) nilF)) nilF)))))
 Am))))))
def Fj (ns:List Int):List W->M W:=Df 3 6 (Rv ns)
theorem Aca (ns:List Int):Dp (An Fg) ((md ns).gm (Mz ns) Ru (Ad Fg))=Rv ns:=by kernel_rfl
def M3 (ns:List Int):List (Str×Fi):=("_law_grown",⟨Fj ns,3,[]⟩)::Mz ns
theorem Yv:Bg Ru ["_law_state","_law_page_here","_law_size"] (Ad Fg):=⟨rfl,rfl,rfl,by decide +kernel,rfl,by decide +kernel,by decide +kernel⟩
abbrev Dt:Stmt:=top 68
def M8:List Str:=["_law_page_here","_law_size","e"]
def Hf (ns:List Int):MS:=(Ak (Ajz (exm 0) 2 (Ak (M7 (Ah (Dq ns) (Aa (Ac 0) (Aa (Ac 1) nilF))))
  Am) (Ak (retS (Gx (Ah (Jq isa) (Aa (Ac 2) (Aa (kF (.cls 4)) nilF))) (Gx (Ah (Jq isa) (Aa (Ac 2) (Aa (kF (.ty "ValueError")) nilF))) (Ajr (Ah (Jq isa) (Aa (Ac 2) (Aa (kF (.cls 3)) nilF)))))))
  Am))
 (Ak (retS (kF (.bl false)))
 Am))
def Du (ns:List Int):List W->M W:=Df 2 3 (Hf ns)
theorem Vj (ns:List Int):Dp (An Dt) ((md ns).gm (M3 ns) M8 (Ad Dt))=Hf ns:=by kernel_rfl
def M9 (ns:List Int):List (Str×Fi):=("_law_too_long",⟨Du ns,2,[]⟩)::M3 ns
theorem Ua:Bg M8 ["_law_page_here","_law_size"] (Ad Dt):=⟨rfl,rfl,rfl,by decide +kernel,rfl,by decide +kernel,by decide +kernel⟩
abbrev Pn:Stmt:=top 69
def Auf:List Str:=["_law_script","_law_state","_law_turn","_law_size","_law_page_here","_law_body_here","_law_text_here","_law_found","_law_due","_law_grown_here"]
def Auh (ns:List Int):MS:=(Ak (Bx 1 (Nk [((kF (.str "cells")),(Ac 0)),((kF (.str "at")),(kF (.int 0)))]))
 (Ak (Vd (Lh Hq (Aa (kF (.int 3)) nilF)) (Cr 2) (Ak (Bx 3 (ixF ns (Jo (Aa (kF (.int 64)) (Aa (kF (.int 200)) (Aa (Ar .add (kF (.int 64)) (Ar .mod (Ah (Bv ns) (Aa (Ac 1) nilF)) (kF (.int 137)))) nilF)))) (Ar .mod (Ah (Bv ns) (Aa (Ac 1) nilF)) (kF (.int 3)))))
  (Ak (Bx 4 (Ah (Om ns) (Aa (Ac 1) (Aa (Ac 3) nilF))))
  (Ak (Bx 5 (Ah (Jy ns) (Aa (Ac 4) nilF)))
  (Ak (Bx 6 (Ah (Dq ns) (Aa (Ac 4) (Aa (Ac 3) nilF))))
  (Ak (ifS (orT (Mh (Az (Ah (Jq isa) (Aa (Ac 5) (Aa (kF (.ty "str")) nilF))))) (orT (Az (Bc .NotEq (Ac 5) (Ah (Dw ns) (Aa (Ac 4) nilF)))) (orT (Mh (Az (Ah (Jq isa) (Aa (Ac 6) (Aa (kF (.ty "str")) nilF))))) (Az (Bc .NotEq (Ah (Cv ns) (Aa (Ac 6) nilF)) (Ac 3)))))) (Ak (retS (kF (.bl false)))
   Am) Am)
  (Ak (ifS (orT (Az (Bc .NotEq (Ac 6) (Ah (Gu ns) (Aa (Ac 4) (Aa (Ac 3) nilF))))) (Az (Bc .NotEq (Ah (Dq ns) (Aa (Ac 4) (Aa (kF (.int 200)) nilF))) (Ah (Gu ns) (Aa (Ac 4) (Aa (kF (.int 200)) nilF)))))) (Ak (retS (kF (.bl false)))
   Am) Am)
  (Ak (Bx 7 (Ah (Mt ns) (Aa (Ac 4) nilF)))
  (Ak (Bx 8 (Ah (My ns) (Aa (Ac 4) nilF)))
  (Ak (ifS (orT (Mh (Az (Ah (Jq isa) (Aa (Ac 7) (Aa (kF (.ty "list")) nilF))))) (Az (Bc .NotEq (Ac 7) (Ac 8)))) (Ak (retS (kF (.bl false)))
   Am) Am)
  (Ak (ifS (Mh (Az (Ah Ws (Aa (Cy 1 [8,7] (Lh Hq (Aa (Ah (Cv ns) (Aa (Ac 8) nilF)) nilF)) (Cr 0) (fun _=>pure true) (Ah (Jv ns) (Aa (ixF ns (Ac 2) (Ac 0)) (Aa (ixF ns (Ac 1) (Ac 0)) nilF)))) nilF)))) (Ak (retS (kF (.bl false)))
   Am) Am)
  (Ak (M7 (Ji .lst Ox (Ac 7) (Aa (kF (.int 5)) nilF)))
  (Ak (ifS (orT (Az (Bc .NotEq (Ah (Mt ns) (Aa (Ac 4) nilF)) (Ac 8))) (orT (Az (Bc .NotEq (Ah (Dq ns) (Aa (Ac 4) (Aa (Ac 3) nilF))) (Ac 6))) (Az (Bc .NotEq (Ac 7) (Ar .add (Ac 8) (Jo (Aa (kF (.int 5)) nilF))))))) (Ak (retS (kF (.bl false)))
   Am) Am)
  (Ak (ifS (Az (Bc .In (ixF ns (Ac 4) (kF (.int 0))) (Jh (Aa (kF (.str "rest")) (Aa (kF (.str "leaf")) (Aa (kF (.str "fork")) nilF)))))) (Ak (Bx 9 (Ah (Fj ns) (Aa (Ac 1) (Aa (Ac 4) (Aa (Ac 3) nilF)))))
   (Ak (ifS (orT (Az (Bc .NotEq (Ah (Jy ns) (Aa (Ac 9) nilF)) (Ah (Dw ns) (Aa (Ac 9) nilF)))) (Mh (Az (Ah (Du ns) (Aa (Ac 9) (Aa (Ac 3) nilF)))))) (Ak (retS (kF (.bl false)))
    Am) Am)
   (Ak (ifS (Az (Ah (Du ns) (Aa (Ac 9) (Aa (ixF ns (Jo (Aa (kF (.int 63)) (Aa (kF (.int 201)) (Aa (kF .non) (Aa (kF (.bl true)) nilF))))) (Ar .mod (Ac 3) (kF (.int 4)))) nilF)))) (Ak (retS (kF (.bl false)))
    Am) Am)
   Am))) Am)
  Am))))))))))))))
 (Ak (retS (kF (.bl true)))
 Am)))
def Aic (ns:List Int):List W->M W:=Df 1 10 (Auh ns)
theorem Bba (ns:List Int):Dp (An Pn) ((md ns).gm (M9 ns) Auf (Ad Pn))=Auh ns:=by kernel_rfl
theorem Axw:Bg Auf ["_law_script"] (Ad Pn):=⟨rfl,rfl,rfl,by decide +kernel,rfl,by decide +kernel,by decide +kernel⟩
abbrev Cq:Stmt:=inClass (top 5) 0
theorem Vk:Bg ["self","number","words"] ["self","number","words"] (Ad Cq):=⟨rfl,rfl,rfl,by decide +kernel,rfl,by decide +kernel,by decide +kernel⟩
theorem Axx {l:PySem.W.OpenLaw} {w:World} {K:PySem.W.Frag} {h:Heap} {mg:Str->Option Value} {fa:Addr} {c0 c1 c2 c3 c4:Addr} {f0 f1 f2 f3 f4 f5 f6 f7 f8 f9 f10 f11 f12 f13 f14 f15 f16 f17 f18 f19 f20 f21 f22 f23 f24 f25 f26 f27 f28 f29 f30 f31 f32 f33 f34 f35 f36 f37 f38 f39 f40 f41 f42:Addr} {od0 an0 od1 an1 od2 an2 od3 an3 od4 an4 od5 an5 od6 an6 od7 an7 od8 an8 od9 an9 od10 an10 od11 an11 od12 an12 od13 an13 od14 an14 od15 an15 od16 an16 od17 an17 od18 an18 od19 an19 od20 an20 od21 an21 od22 an22 od23 an23 od24 an24 od25 an25 od26 an26 od27 an27 od28 an28 od29 an29 od30 an30 od31 an31 od32 an32 od33 an33 od34 an34 od35 an35 od36 an36 od37 an37 od38 an38 od39 an39 od40 an40 od41 an41 od42 an42:Option Addr} {sl0 sl1 sl2 sl3 sl4 sl5 sl6 sl7 sl8 sl9 sl10 sl11 sl12 sl13 sl14 sl15 sl16 sl17 sl18 sl19 sl20 sl21 sl22 sl23 sl24 sl25 sl26 sl27 sl28 sl29 sl30 sl31 sl32 sl33 sl34 sl35 sl36 sl37 sl38 sl39 sl40 sl41 sl42:Array (Option Value)} {oc0 kV0 dc0 pm0 cd0 ct0 oc1 kV1 dc1 pm1 cd1 ct1 oc2 kV2 dc2 pm2 cd2 ct2 oc3 kV3 dc3 pm3 cd3 ct3 oc4 kV4 dc4 pm4 cd4 ct4 oc5 kV5 dc5 pm5 cd5 ct5 oc6 kV6 dc6 pm6 cd6 ct6 oc7 kV7 dc7 pm7 cd7 ct7 oc8 kV8 dc8 pm8 cd8 ct8 oc9 kV9 dc9 pm9 cd9 ct9 oc10 kV10 dc10 pm10 cd10 ct10 oc11 kV11 dc11 pm11 cd11 ct11 oc12 kV12 dc12 pm12 cd12 ct12 oc13 kV13 dc13 pm13 cd13 ct13 oc14 kV14 dc14 pm14 cd14 ct14 oc15 kV15 dc15 pm15 cd15 ct15 oc16 kV16 dc16 pm16 cd16 ct16 oc17 kV17 dc17 pm17 cd17 ct17 oc18 kV18 dc18 pm18 cd18 ct18 oc19 kV19 dc19 pm19 cd19 ct19 oc20 kV20 dc20 pm20 cd20 ct20 oc21 kV21 dc21 pm21 cd21 ct21 oc22 kV22 dc22 pm22 cd22 ct22 oc23 kV23 dc23 pm23 cd23 ct23 oc24 kV24 dc24 pm24 cd24 ct24 oc25 kV25 dc25 pm25 cd25 ct25 oc26 kV26 dc26 pm26 cd26 ct26 oc27 kV27 dc27 pm27 cd27 ct27 oc28 kV28 dc28 pm28 cd28 ct28 oc29 kV29 dc29 pm29 cd29 ct29 oc30 kV30 dc30 pm30 cd30 ct30 oc31 kV31 dc31 pm31 cd31 ct31 oc32 kV32 dc32 pm32 cd32 ct32 oc33 kV33 dc33 pm33 cd33 ct33 oc34 kV34 dc34 pm34 cd34 ct34 oc35 kV35 dc35 pm35 cd35 ct35 oc36 kV36 dc36 pm36 cd36 ct36 oc37 kV37 dc37 pm37 cd37 ct37 oc38 kV38 dc38 pm38 cd38 ct38 oc39 kV39 dc39 pm39 cd39 ct39 oc40 kV40 dc40 pm40 cd40 ct40 oc41 kV41 dc41 pm41 cd41 ct41 oc42 kV42 dc42 pm42 cd42 ct42:Value} {t7:Addr} {do7:Value} {dd7:Option Addr} {dn7:Nat} {dz7:Array (Option Value)} {dk7_0:Tok} {t42:Addr} {do42:Value} {dd42:Option Addr} {dn42:Nat} {dz42:Array (Option Value)} {dk42_1:Tok} {tk0 tk1 tk2 tk3 tk4 tk5 tk6 tk7 tk8 tk9 tk10 tk11 tk12 tk13 tk14 tk15 tk16:Tok} {m0:Addr} (X:K.In h) (G:h.Ns mainGlobals mg) (hfa:mg "law"=some (.ref fa)) (law:∀ns:List Int,ns.length≤63->∃S',Aic ns [.scr] []=.ok (.bl true) S')
  (C0:PySem.W.nsIn K mainGlobals "TableError"=some (some (.ref c0)))
  (C1:PySem.W.nsIn K mainGlobals "BadNumber"=some (some (.ref c1)))
  (C2:PySem.W.nsIn K mainGlobals "BadText"=some (some (.ref c2)))
  (C3:PySem.W.nsIn K mainGlobals "BadSize"=some (some (.ref c3)))
  (C4:PySem.W.nsIn K mainGlobals "BadPage"=some (some (.ref c4)))
  (ca0:PySem.W.nsIn K mainGlobals "is_whole"=some (some (.ref f0)))
  (cl0:K.lookup f0=some ⟨oc0,od0,.func (PySem.W.fnOf "is_whole" "is_whole" (Bd Hg) (An Hg) (Ad Hg) .none kV0 dc0 pm0 an0 cd0 ct0),sl0⟩)
  (cc0:PySem.W.codeIn K cd0 "is_whole"=true)
  (ck0:PySem.W.keepIn K (.ref f0)=true)
  (ca1:PySem.W.nsIn K mainGlobals "is_text"=some (some (.ref f1)))
  (cl1:K.lookup f1=some ⟨oc1,od1,.func (PySem.W.fnOf "is_text" "is_text" (Bd Ik) (An Ik) (Ad Ik) .none kV1 dc1 pm1 an1 cd1 ct1),sl1⟩)
  (cc1:PySem.W.codeIn K cd1 "is_text"=true)
  (ck1:PySem.W.keepIn K (.ref f1)=true)
  (ca2:PySem.W.nsIn K mainGlobals "digits"=some (some (.ref f2)))
  (cl2:K.lookup f2=some ⟨oc2,od2,.func (PySem.W.fnOf "digits" "digits" (Bd J7) (An J7) (Ad J7) .none kV2 dc2 pm2 an2 cd2 ct2),sl2⟩)
  (cc2:PySem.W.codeIn K cd2 "digits"=true)
  (ck2:PySem.W.keepIn K (.ref f2)=true)
  (ca3:PySem.W.nsIn K mainGlobals "check_of"=some (some (.ref f3)))
  (cl3:K.lookup f3=some ⟨oc3,od3,.func (PySem.W.fnOf "check_of" "check_of" (Bd Hh) (An Hh) (Ad Hh) .none kV3 dc3 pm3 an3 cd3 ct3),sl3⟩)
  (cc3:PySem.W.codeIn K cd3 "check_of"=true)
  (ck3:PySem.W.keepIn K (.ref f3)=true)
  (ca4:PySem.W.nsIn K mainGlobals "is_key"=some (some (.ref f4)))
  (cl4:K.lookup f4=some ⟨oc4,od4,.func (PySem.W.fnOf "is_key" "is_key" (Bd J8) (An J8) (Ad J8) .none kV4 dc4 pm4 an4 cd4 ct4),sl4⟩)
  (cc4:PySem.W.codeIn K cd4 "is_key"=true)
  (ck4:PySem.W.keepIn K (.ref f4)=true)
  (ca5:PySem.W.nsIn K mainGlobals "is_size"=some (some (.ref f5)))
  (cl5:K.lookup f5=some ⟨oc5,od5,.func (PySem.W.fnOf "is_size" "is_size" (Bd Il) (An Il) (Ad Il) .none kV5 dc5 pm5 an5 cd5 ct5),sl5⟩)
  (cc5:PySem.W.codeIn K cd5 "is_size"=true)
  (ck5:PySem.W.keepIn K (.ref f5)=true)
  (ca6:PySem.W.nsIn K mainGlobals "room_of"=some (some (.ref f6)))
  (cl6:K.lookup f6=some ⟨oc6,od6,.func (PySem.W.fnOf "room_of" "room_of" (Bd Im) (An Im) (Ad Im) .none kV6 dc6 pm6 an6 cd6 ct6),sl6⟩)
  (cc6:PySem.W.codeIn K cd6 "room_of"=true)
  (ck6:PySem.W.keepIn K (.ref f6)=true)
  (ca7:PySem.W.nsIn K mainGlobals "is_number"=some (some (.ref f7)))
  (cl7:K.lookup f7=some ⟨oc7,od7,.func (PySem.W.fnOf "is_number" "is_number" (Bd Cg) (An Cg) (Ad Cg) (.ref t7) kV7 dc7 pm7 an7 cd7 ct7),sl7⟩)
  (cc7:PySem.W.codeIn K cd7 "is_number"=true)
  (ck7:PySem.W.keepIn K (.ref f7)=true)
  (dl7:K.lookup t7=some ⟨do7,dd7,.seq #[(.int 0 dk7_0)] dn7,dz7⟩)
  (ca8:PySem.W.nsIn K mainGlobals "is_text_of"=some (some (.ref f8)))
  (cl8:K.lookup f8=some ⟨oc8,od8,.func (PySem.W.fnOf "is_text_of" "is_text_of" (Bd Ez) (An Ez) (Ad Ez) .none kV8 dc8 pm8 an8 cd8 ct8),sl8⟩)
  (cc8:PySem.W.codeIn K cd8 "is_text_of"=true)
  (ck8:PySem.W.keepIn K (.ref f8)=true)
  (ca9:PySem.W.nsIn K mainGlobals "is_tuple_of"=some (some (.ref f9)))
  (cl9:K.lookup f9=some ⟨oc9,od9,.func (PySem.W.fnOf "is_tuple_of" "is_tuple_of" (Bd Eo) (An Eo) (Ad Eo) .none kV9 dc9 pm9 an9 cd9 ct9),sl9⟩)
  (cc9:PySem.W.codeIn K cd9 "is_tuple_of"=true)
  (ck9:PySem.W.keepIn K (.ref f9)=true)
  (ca10:PySem.W.nsIn K mainGlobals "word_of"=some (some (.ref f10)))
  (cl10:K.lookup f10=some ⟨oc10,od10,.func (PySem.W.fnOf "word_of" "word_of" (Bd Io) (An Io) (Ad Io) .none kV10 dc10 pm10 an10 cd10 ct10),sl10⟩)
  (cc10:PySem.W.codeIn K cd10 "word_of"=true)
  (ck10:PySem.W.keepIn K (.ref f10)=true)
  (ca11:PySem.W.nsIn K mainGlobals "are_rising_keys"=some (some (.ref f11)))
  (cl11:K.lookup f11=some ⟨oc11,od11,.func (PySem.W.fnOf "are_rising_keys" "are_rising_keys" (Bd Dh) (An Dh) (Ad Dh) .none kV11 dc11 pm11 an11 cd11 ct11),sl11⟩)
  (cc11:PySem.W.codeIn K cd11 "are_rising_keys"=true)
  (ck11:PySem.W.keepIn K (.ref f11)=true)
  (ca12:PySem.W.nsIn K mainGlobals "is_cell"=some (some (.ref f12)))
  (cl12:K.lookup f12=some ⟨oc12,od12,.func (PySem.W.fnOf "is_cell" "is_cell" (Bd Ip) (An Ip) (Ad Ip) .none kV12 dc12 pm12 an12 cd12 ct12),sl12⟩)
  (cc12:PySem.W.codeIn K cd12 "is_cell"=true)
  (ck12:PySem.W.keepIn K (.ref f12)=true)
  (ca13:PySem.W.nsIn K mainGlobals "are_rows"=some (some (.ref f13)))
  (cl13:K.lookup f13=some ⟨oc13,od13,.func (PySem.W.fnOf "are_rows" "are_rows" (Bd Hi) (An Hi) (Ad Hi) .none kV13 dc13 pm13 an13 cd13 ct13),sl13⟩)
  (cc13:PySem.W.codeIn K cd13 "are_rows"=true)
  (ck13:PySem.W.keepIn K (.ref f13)=true)
  (ca14:PySem.W.nsIn K mainGlobals "are_keys"=some (some (.ref f14)))
  (cl14:K.lookup f14=some ⟨oc14,od14,.func (PySem.W.fnOf "are_keys" "are_keys" (Bd Hj) (An Hj) (Ad Hj) .none kV14 dc14 pm14 an14 cd14 ct14),sl14⟩)
  (cc14:PySem.W.codeIn K cd14 "are_keys"=true)
  (ck14:PySem.W.keepIn K (.ref f14)=true)
  (ca15:PySem.W.nsIn K mainGlobals "are_kids"=some (some (.ref f15)))
  (cl15:K.lookup f15=some ⟨oc15,od15,.func (PySem.W.fnOf "are_kids" "are_kids" (Bd Hk) (An Hk) (Ad Hk) .none kV15 dc15 pm15 an15 cd15 ct15),sl15⟩)
  (cc15:PySem.W.codeIn K cd15 "are_kids"=true)
  (ck15:PySem.W.keepIn K (.ref f15)=true)
  (ca16:PySem.W.nsIn K mainGlobals "is_page"=some (some (.ref f16)))
  (cl16:K.lookup f16=some ⟨oc16,od16,.func (PySem.W.fnOf "is_page" "is_page" (Bd Ir) (An Ir) (Ad Ir) .none kV16 dc16 pm16 an16 cd16 ct16),sl16⟩)
  (cc16:PySem.W.codeIn K cd16 "is_page"=true)
  (ck16:PySem.W.keepIn K (.ref f16)=true)
  (ca17:PySem.W.nsIn K mainGlobals "numbers_text"=some (some (.ref f17)))
  (cl17:K.lookup f17=some ⟨oc17,od17,.func (PySem.W.fnOf "numbers_text" "numbers_text" (Bd Eb) (An Eb) (Ad Eb) .none kV17 dc17 pm17 an17 cd17 ct17),sl17⟩)
  (cc17:PySem.W.codeIn K cd17 "numbers_text"=true)
  (ck17:PySem.W.keepIn K (.ref f17)=true)
  (ca18:PySem.W.nsIn K mainGlobals "key_text"=some (some (.ref f18)))
  (cl18:K.lookup f18=some ⟨oc18,od18,.func (PySem.W.fnOf "key_text" "key_text" (Bd Hl) (An Hl) (Ad Hl) .none kV18 dc18 pm18 an18 cd18 ct18),sl18⟩)
  (cc18:PySem.W.codeIn K cd18 "key_text"=true)
  (ck18:PySem.W.keepIn K (.ref f18)=true)
  (ca19:PySem.W.nsIn K mainGlobals "cell_text"=some (some (.ref f19)))
  (cl19:K.lookup f19=some ⟨oc19,od19,.func (PySem.W.fnOf "cell_text" "cell_text" (Bd Gd) (An Gd) (Ad Gd) .none kV19 dc19 pm19 an19 cd19 ct19),sl19⟩)
  (cc19:PySem.W.codeIn K cd19 "cell_text"=true)
  (ck19:PySem.W.keepIn K (.ref f19)=true)
  (ca20:PySem.W.nsIn K mainGlobals "row_text"=some (some (.ref f20)))
  (cl20:K.lookup f20=some ⟨oc20,od20,.func (PySem.W.fnOf "row_text" "row_text" (Bd Hm) (An Hm) (Ad Hm) .none kV20 dc20 pm20 an20 cd20 ct20),sl20⟩)
  (cc20:PySem.W.codeIn K cd20 "row_text"=true)
  (ck20:PySem.W.keepIn K (.ref f20)=true)
  (ca21:PySem.W.nsIn K mainGlobals "body_text"=some (some (.ref f21)))
  (cl21:K.lookup f21=some ⟨oc21,od21,.func (PySem.W.fnOf "body_text" "body_text" (Bd Ge) (An Ge) (Ad Ge) .none kV21 dc21 pm21 an21 cd21 ct21),sl21⟩)
  (cc21:PySem.W.codeIn K cd21 "body_text"=true)
  (ck21:PySem.W.keepIn K (.ref f21)=true)
  (ca22:PySem.W.nsIn K mainGlobals "body_of"=some (some (.ref f22)))
  (cl22:K.lookup f22=some ⟨oc22,od22,.func (PySem.W.fnOf "body_of" "body_of" (Bd Iu) (An Iu) (Ad Iu) .none kV22 dc22 pm22 an22 cd22 ct22),sl22⟩)
  (cc22:PySem.W.codeIn K cd22 "body_of"=true)
  (ck22:PySem.W.keepIn K (.ref f22)=true)
  (ca23:PySem.W.nsIn K mainGlobals "unchecked_text"=some (some (.ref f23)))
  (cl23:K.lookup f23=some ⟨oc23,od23,.func (PySem.W.fnOf "unchecked_text" "unchecked_text" (Bd Dl) (An Dl) (Ad Dl) .none kV23 dc23 pm23 an23 cd23 ct23),sl23⟩)
  (cc23:PySem.W.codeIn K cd23 "unchecked_text"=true)
  (ck23:PySem.W.keepIn K (.ref f23)=true)
  (ca24:PySem.W.nsIn K mainGlobals "page_text"=some (some (.ref f24)))
  (cl24:K.lookup f24=some ⟨oc24,od24,.func (PySem.W.fnOf "page_text" "page_text" (Bd Gf) (An Gf) (Ad Gf) .none kV24 dc24 pm24 an24 cd24 ct24),sl24⟩)
  (cc24:PySem.W.codeIn K cd24 "page_text"=true)
  (ck24:PySem.W.keepIn K (.ref f24)=true)
  (ca25:PySem.W.nsIn K mainGlobals "leads_to"=some (some (.ref f25)))
  (cl25:K.lookup f25=some ⟨oc25,od25,.func (PySem.W.fnOf "leads_to" "leads_to" (Bd Hn) (An Hn) (Ad Hn) .none kV25 dc25 pm25 an25 cd25 ct25),sl25⟩)
  (cc25:PySem.W.codeIn K cd25 "leads_to"=true)
  (ck25:PySem.W.keepIn K (.ref f25)=true)
  (ca26:PySem.W.nsIn K mainGlobals "_law_cell_at"=some (some (.ref f26)))
  (cl26:K.lookup f26=some ⟨oc26,od26,.func (PySem.W.fnOf "_law_cell_at" "_law_cell_at" (Bd Ec) (An Ec) (Ad Ec) .none kV26 dc26 pm26 an26 cd26 ct26),sl26⟩)
  (cc26:PySem.W.codeIn K cd26 "_law_cell_at"=true)
  (ck26:PySem.W.keepIn K (.ref f26)=true)
  (ca27:PySem.W.nsIn K mainGlobals "_law_next"=some (some (.ref f27)))
  (cl27:K.lookup f27=some ⟨oc27,od27,.func (PySem.W.fnOf "_law_next" "_law_next" (Bd Gg) (An Gg) (Ad Gg) .none kV27 dc27 pm27 an27 cd27 ct27),sl27⟩)
  (cc27:PySem.W.codeIn K cd27 "_law_next"=true)
  (ck27:PySem.W.keepIn K (.ref f27)=true)
  (ca28:PySem.W.nsIn K mainGlobals "_law_whole"=some (some (.ref f28)))
  (cl28:K.lookup f28=some ⟨oc28,od28,.func (PySem.W.fnOf "_law_whole" "_law_whole" (Bd Fb) (An Fb) (Ad Fb) .none kV28 dc28 pm28 an28 cd28 ct28),sl28⟩)
  (cc28:PySem.W.codeIn K cd28 "_law_whole"=true)
  (ck28:PySem.W.keepIn K (.ref f28)=true)
  (ca29:PySem.W.nsIn K mainGlobals "_law_signs"=some (some (.ref f29)))
  (cl29:K.lookup f29=some ⟨oc29,od29,.func (PySem.W.fnOf "_law_signs" "_law_signs" (Bd Fd) (An Fd) (Ad Fd) .none kV29 dc29 pm29 an29 cd29 ct29),sl29⟩)
  (cc29:PySem.W.codeIn K cd29 "_law_signs"=true)
  (ck29:PySem.W.keepIn K (.ref f29)=true)
  (ca30:PySem.W.nsIn K mainGlobals "_law_text"=some (some (.ref f30)))
  (cl30:K.lookup f30=some ⟨oc30,od30,.func (PySem.W.fnOf "_law_text" "_law_text" (Bd Gh) (An Gh) (Ad Gh) .none kV30 dc30 pm30 an30 cd30 ct30),sl30⟩)
  (cc30:PySem.W.codeIn K cd30 "_law_text"=true)
  (ck30:PySem.W.keepIn K (.ref f30)=true)
  (ca31:PySem.W.nsIn K mainGlobals "_law_digits"=some (some (.ref f31)))
  (cl31:K.lookup f31=some ⟨oc31,od31,.func (PySem.W.fnOf "_law_digits" "_law_digits" (Bd Ep) (An Ep) (Ad Ep) .none kV31 dc31 pm31 an31 cd31 ct31),sl31⟩)
  (cc31:PySem.W.codeIn K cd31 "_law_digits"=true)
  (ck31:PySem.W.keepIn K (.ref f31)=true)
  (ca32:PySem.W.nsIn K mainGlobals "_law_check"=some (some (.ref f32)))
  (cl32:K.lookup f32=some ⟨oc32,od32,.func (PySem.W.fnOf "_law_check" "_law_check" (Bd Fe) (An Fe) (Ad Fe) .none kV32 dc32 pm32 an32 cd32 ct32),sl32⟩)
  (cc32:PySem.W.codeIn K cd32 "_law_check"=true)
  (ck32:PySem.W.keepIn K (.ref f32)=true)
  (ca33:PySem.W.nsIn K mainGlobals "_law_rising"=some (some (.ref f33)))
  (cl33:K.lookup f33=some ⟨oc33,od33,.func (PySem.W.fnOf "_law_rising" "_law_rising" (Bd Er) (An Er) (Ad Er) .none kV33 dc33 pm33 an33 cd33 ct33),sl33⟩)
  (cc33:PySem.W.codeIn K cd33 "_law_rising"=true)
  (ck33:PySem.W.keepIn K (.ref f33)=true)
  (ca34:PySem.W.nsIn K mainGlobals "_law_cell"=some (some (.ref f34)))
  (cl34:K.lookup f34=some ⟨oc34,od34,.func (PySem.W.fnOf "_law_cell" "_law_cell" (Bd Gi) (An Gi) (Ad Gi) .none kV34 dc34 pm34 an34 cd34 ct34),sl34⟩)
  (cc34:PySem.W.codeIn K cd34 "_law_cell"=true)
  (ck34:PySem.W.keepIn K (.ref f34)=true)
  (ca35:PySem.W.nsIn K mainGlobals "_law_body"=some (some (.ref f35)))
  (cl35:K.lookup f35=some ⟨oc35,od35,.func (PySem.W.fnOf "_law_body" "_law_body" (Bd Gj) (An Gj) (Ad Gj) .none kV35 dc35 pm35 an35 cd35 ct35),sl35⟩)
  (cc35:PySem.W.codeIn K cd35 "_law_body"=true)
  (ck35:PySem.W.keepIn K (.ref f35)=true)
  (ca36:PySem.W.nsIn K mainGlobals "_law_page"=some (some (.ref f36)))
  (cl36:K.lookup f36=some ⟨oc36,od36,.func (PySem.W.fnOf "_law_page" "_law_page" (Bd Gk) (An Gk) (Ad Gk) .none kV36 dc36 pm36 an36 cd36 ct36),sl36⟩)
  (cc36:PySem.W.codeIn K cd36 "_law_page"=true)
  (ck36:PySem.W.keepIn K (.ref f36)=true)
  (ca37:PySem.W.nsIn K mainGlobals "_law_page_text"=some (some (.ref f37)))
  (cl37:K.lookup f37=some ⟨oc37,od37,.func (PySem.W.fnOf "_law_page_text" "_law_page_text" (Bd Dm) (An Dm) (Ad Dm) .none kV37 dc37 pm37 an37 cd37 ct37),sl37⟩)
  (cc37:PySem.W.codeIn K cd37 "_law_page_text"=true)
  (ck37:PySem.W.keepIn K (.ref f37)=true)
  (ca38:PySem.W.nsIn K mainGlobals "_law_leads"=some (some (.ref f38)))
  (cl38:K.lookup f38=some ⟨oc38,od38,.func (PySem.W.fnOf "_law_leads" "_law_leads" (Bd Ff) (An Ff) (Ad Ff) .none kV38 dc38 pm38 an38 cd38 ct38),sl38⟩)
  (cc38:PySem.W.codeIn K cd38 "_law_leads"=true)
  (ck38:PySem.W.keepIn K (.ref f38)=true)
  (ca39:PySem.W.nsIn K mainGlobals "_law_grown"=some (some (.ref f39)))
  (cl39:K.lookup f39=some ⟨oc39,od39,.func (PySem.W.fnOf "_law_grown" "_law_grown" (Bd Fg) (An Fg) (Ad Fg) .none kV39 dc39 pm39 an39 cd39 ct39),sl39⟩)
  (cc39:PySem.W.codeIn K cd39 "_law_grown"=true)
  (ck39:PySem.W.keepIn K (.ref f39)=true)
  (ca40:PySem.W.nsIn K mainGlobals "_law_too_long"=some (some (.ref f40)))
  (cl40:K.lookup f40=some ⟨oc40,od40,.func (PySem.W.fnOf "_law_too_long" "_law_too_long" (Bd Dt) (An Dt) (Ad Dt) .none kV40 dc40 pm40 an40 cd40 ct40),sl40⟩)
  (cc40:PySem.W.codeIn K cd40 "_law_too_long"=true)
  (ck40:PySem.W.keepIn K (.ref f40)=true)
  (ca41:PySem.W.nsIn K mainGlobals "law"=some (some (.ref f41)))
  (cl41:K.lookup f41=some ⟨oc41,od41,.func (PySem.W.fnOf "law" "law" (Bd Pn) (An Pn) (Ad Pn) .none kV41 dc41 pm41 an41 cd41 ct41),sl41⟩)
  (cc41:PySem.W.codeIn K cd41 "law"=true)
  (ck41:PySem.W.keepIn K (.ref f41)=true)
  (ca42:PySem.W.findIn K (.ref c4) "__init__"=some (some (.ref f42)))
  (cl42:K.lookup f42=some ⟨oc42,od42,.func (PySem.W.fnOf "__init__" "BadPage.__init__" (Bd Cq) (An Cq) (Ad Cq) (.ref t42) kV42 dc42 pm42 an42 cd42 ct42),sl42⟩)
  (cc42:PySem.W.codeIn K cd42 "BadPage.__init__"=true)
  (ck42:PySem.W.keepIn K (.ref f42)=true)
  (dl42:K.lookup t42=some ⟨do42,dd42,.seq #[.none,(.str "no page as it is wanted" dk42_1)] dn42,dz42⟩)
  (g0:PySem.W.nsIn K mainGlobals "SIGNS"=some (some (.str "0123456789abcdefghijklmnopqrstuvwxyzABCDEFGHIJKLMNOPQRSTUVWXYZ+-" tk0)))
  (g1:PySem.W.nsIn K mainGlobals "BITS"=some (some (.int 6 tk1)))
  (g2:PySem.W.nsIn K mainGlobals "LOWEST_BITS"=some (some (.int 63 tk2)))
  (g3:PySem.W.nsIn K mainGlobals "MOST_SIGNS"=some (some (.int 3 tk3)))
  (g4:PySem.W.nsIn K mainGlobals "TEXT_SIGNS"=some (some (.str " !\"#$&'()*+,-./0123456789:;<=>?@ABCDEFGHIJKLMNOPQRSTUVWXYZ[\\]^_`abcdefghijklmnopqrstuvwxyz{|}~" tk4)))
  (g5:PySem.W.nsIn K mainGlobals "CODES_AHEAD"=some (some (.int 31 tk5)))
  (g6:PySem.W.nsIn K mainGlobals "CHECK_DIVISOR"=some (some (.int 4093 tk6)))
  (g7:PySem.W.nsIn K mainGlobals "CHECK_SIGNS"=some (some (.int 2 tk7)))
  (g8:PySem.W.nsIn K mainGlobals "MOST_KEY_SIGNS"=some (some (.int 12 tk8)))
  (g9:PySem.W.nsIn K mainGlobals "MOST_VALUE_SIGNS"=some (some (.int 400 tk9)))
  (g10:PySem.W.nsIn K mainGlobals "LEAST_SIZE"=some (some (.int 64 tk10)))
  (g11:PySem.W.nsIn K mainGlobals "MOST_SIZE"=some (some (.int 200 tk11)))
  (g12:PySem.W.nsIn K mainGlobals "MOST_NUMBER"=some (some (.int 4095 tk12)))
  (g13:PySem.W.nsIn K mainGlobals "MOST_ROWS"=some (some (.int 63 tk13)))
  (g14:PySem.W.nsIn K mainGlobals "MOST_CELL_SIGNS"=some (some (.int 63 tk14)))
  (g15:PySem.W.nsIn K mainGlobals "NUMBER_SIGNS"=some (some (.int 2 tk15)))
  (g16:PySem.W.nsIn K mainGlobals "SIGNS_BESIDE_BODY"=some (some (.int 5 tk16)))
  (z0:PySem.W.nsIn K mainGlobals "isinstance"=some none)
  (z1:PySem.W.nsIn K mainGlobals "len"=some none)
  (z2:PySem.W.nsIn K mainGlobals "ord"=some none)
  (z3:PySem.W.nsIn K mainGlobals "max"=some none)
  (z4:PySem.W.nsIn K mainGlobals "sum"=some none)
  (z5:PySem.W.nsIn K mainGlobals "all"=some none)
  (z6:PySem.W.nsIn K mainGlobals "tuple"=some none)
  (z7:PySem.W.nsIn K mainGlobals "list"=some none)
  (z8:PySem.W.nsIn K mainGlobals "sorted"=some none)
  (z9:PySem.W.nsIn K mainGlobals "range"=some none)
  (z10:PySem.W.nsIn K mainGlobals "zip"=some none)
  (z11:PySem.W.nsIn K mainGlobals "enumerate"=some none)
  (z12:PySem.W.nsIn K mainGlobals "int"=some none)
  (z13:PySem.W.nsIn K mainGlobals "bool"=some none)
  (z14:PySem.W.nsIn K mainGlobals "str"=some none)
  (z15:PySem.W.nsIn K mainGlobals "ValueError"=some none)
  (x0:Yj K c0)
  (x1:Yj K c1)
  (x2:Yj K c2)
  (x3:Yj K c3)
  (isL:Ah0 K [c0,c1,c2,c3,c4] Ba2=true)
  (veL:Anr K [c0,c1,c2,c3,c4] Ba3=true)
  (exL:Ah1 K [c0,c1,c2,c3,c4] Ba8=true)
  (mg0:PySem.W.nsIn K mainGlobals "LETTERS"=some (some (.ref m0)))
  (mt0:KTD.tabLook (KTD.datLooks fun b=>K.lookup b) (fun b=>K.lookup b) m0 (Fp.map fun p=>(p.1,KTD.Dat.flat (.str p.2)))=true)
  (xa42:Aa5 K c4 f42=true)
  (xk42:PySem.W.keepIn K (.ref c4)=true)
  (xf42:Axp K f42=true)
  (xs42:xsB K c4 "number"=true)
  (xb42:xbB K c0=true)
  : ∃fd:FuncData,(∀(s:Shared) (v:Value),BindsTo s fd ⟨[v],[]⟩ [("_law_script",v)])∧∀base:Heap,K.In base->base.Ns mainGlobals mg->Ib l.prog w K mg base (CXo l.prog w) 44 fa fd ["_law_script"] (Ahy K):=by
 have e:fa=f41:=Value.ref.inj (Option.some.inj (hfa.symm.trans (PySem.W.mg_of X G ca41)))
 rw[e]
 have D0:Ci K mg "is_whole" Hg ["thing"] f0 _:=⟨By cl0 cc0 ck0,PySem.W.mg_of X G ca0,Bk fun us hl=>match us,hl with|[_],_=>rfl⟩
 have b0:=D0.bd
 have D1:Ci K mg "is_text" Ik ["thing"] f1 _:=⟨By cl1 cc1 ck1,PySem.W.mg_of X G ca1,Bk fun us hl=>match us,hl with|[_],_=>rfl⟩
 have b1:=D1.bd
 have D2:Ci K mg "digits" J7 ["number","many"] f2 _:=⟨By cl2 cc2 ck2,PySem.W.mg_of X G ca2,Bk fun us hl=>match us,hl with|[_,_],_=>rfl⟩
 have b2:=D2.bd
 have D3:Ci K mg "check_of" Hh ["text"] f3 _:=⟨By cl3 cc3 ck3,PySem.W.mg_of X G ca3,Bk fun us hl=>match us,hl with|[_],_=>rfl⟩
 have b3:=D3.bd
 have D4:Ci K mg "is_key" J8 ["thing"] f4 _:=⟨By cl4 cc4 ck4,PySem.W.mg_of X G ca4,Bk fun us hl=>match us,hl with|[_],_=>rfl⟩
 have b4:=D4.bd
 have D5:Ci K mg "is_size" Il ["thing"] f5 _:=⟨By cl5 cc5 ck5,PySem.W.mg_of X G ca5,Bk fun us hl=>match us,hl with|[_],_=>rfl⟩
 have b5:=D5.bd
 have D6:Ci K mg "room_of" Im ["size"] f6 _:=⟨By cl6 cc6 ck6,PySem.W.mg_of X G ca6,Bk fun us hl=>match us,hl with|[_],_=>rfl⟩
 have b6:=D6.bd
 have F7:=By (st:=Cg) cl7 cc7 ck7
 have b7:Binds K (PySem.W.fnOf "is_number" "is_number" (Bd Cg) (An Cg) (Ad Cg) (.ref t7) kV7 dc7 pm7 an7 cd7 ct7) ["thing","least"] []:=fun s us KX hl=>by
  have hl':us.length=2:=by simpa using hl
  exact match us,hl' with|[_,_],_=>.of_defaults rfl (KX _ _ dl7) rfl rfl rfl
 have v7:Binds K (PySem.W.fnOf "is_number" "is_number" (Bd Cg) (An Cg) (Ad Cg) (.ref t7) kV7 dc7 pm7 an7 cd7 ct7) ["thing","least"] [(.int 0 dk7_0)]:=fun s us KX hl=>by
  have hl':us.length=1:=by simpa using hl
  exact match us,hl' with|[_],_=>.of_defaults rfl (KX _ _ dl7) rfl rfl rfl
 have D7:Ci K mg "is_number" Cg ["thing","least"] f7 (PySem.W.fnOf "is_number" "is_number" (Bd Cg) (An Cg) (Ad Cg) (.ref t7) kV7 dc7 pm7 an7 cd7 ct7):=⟨F7,PySem.W.mg_of X G ca7,b7⟩
 have D8:Ci K mg "is_text_of" Ez ["thing","least","most"] f8 _:=⟨By cl8 cc8 ck8,PySem.W.mg_of X G ca8,Bk fun us hl=>match us,hl with|[_,_,_],_=>rfl⟩
 have b8:=D8.bd
 have D9:Ci K mg "is_tuple_of" Eo ["thing","many"] f9 _:=⟨By cl9 cc9 ck9,PySem.W.mg_of X G ca9,Bk fun us hl=>match us,hl with|[_,_],_=>rfl⟩
 have b9:=D9.bd
 have D10:Ci K mg "word_of" Io ["thing"] f10 _:=⟨By cl10 cc10 ck10,PySem.W.mg_of X G ca10,Bk fun us hl=>match us,hl with|[_],_=>rfl⟩
 have b10:=D10.bd
 have D11:Ci K mg "are_rising_keys" Dh ["keys"] f11 _:=⟨By cl11 cc11 ck11,PySem.W.mg_of X G ca11,Bk fun us hl=>match us,hl with|[_],_=>rfl⟩
 have b11:=D11.bd
 have D12:Ci K mg "is_cell" Ip ["thing"] f12 _:=⟨By cl12 cc12 ck12,PySem.W.mg_of X G ca12,Bk fun us hl=>match us,hl with|[_],_=>rfl⟩
 have b12:=D12.bd
 have D13:Ci K mg "are_rows" Hi ["thing"] f13 _:=⟨By cl13 cc13 ck13,PySem.W.mg_of X G ca13,Bk fun us hl=>match us,hl with|[_],_=>rfl⟩
 have b13:=D13.bd
 have D14:Ci K mg "are_keys" Hj ["thing"] f14 _:=⟨By cl14 cc14 ck14,PySem.W.mg_of X G ca14,Bk fun us hl=>match us,hl with|[_],_=>rfl⟩
 have b14:=D14.bd
 have D15:Ci K mg "are_kids" Hk ["thing","many"] f15 _:=⟨By cl15 cc15 ck15,PySem.W.mg_of X G ca15,Bk fun us hl=>match us,hl with|[_,_],_=>rfl⟩
 have b15:=D15.bd
 have D16:Ci K mg "is_page" Ir ["thing"] f16 _:=⟨By cl16 cc16 ck16,PySem.W.mg_of X G ca16,Bk fun us hl=>match us,hl with|[_],_=>rfl⟩
 have b16:=D16.bd
 have D17:Ci K mg "numbers_text" Eb ["numbers"] f17 _:=⟨By cl17 cc17 ck17,PySem.W.mg_of X G ca17,Bk fun us hl=>match us,hl with|[_],_=>rfl⟩
 have b17:=D17.bd
 have D18:Ci K mg "key_text" Hl ["key"] f18 _:=⟨By cl18 cc18 ck18,PySem.W.mg_of X G ca18,Bk fun us hl=>match us,hl with|[_],_=>rfl⟩
 have b18:=D18.bd
 have D19:Ci K mg "cell_text" Gd ["cell"] f19 _:=⟨By cl19 cc19 ck19,PySem.W.mg_of X G ca19,Bk fun us hl=>match us,hl with|[_],_=>rfl⟩
 have b19:=D19.bd
 have D20:Ci K mg "row_text" Hm ["row"] f20 _:=⟨By cl20 cc20 ck20,PySem.W.mg_of X G ca20,Bk fun us hl=>match us,hl with|[_],_=>rfl⟩
 have b20:=D20.bd
 have D21:Ci K mg "body_text" Ge ["page"] f21 _:=⟨By cl21 cc21 ck21,PySem.W.mg_of X G ca21,Bk fun us hl=>match us,hl with|[_],_=>rfl⟩
 have b21:=D21.bd
 have D22:Ci K mg "body_of" Iu ["page"] f22 _:=⟨By cl22 cc22 ck22,PySem.W.mg_of X G ca22,Bk fun us hl=>match us,hl with|[_],_=>rfl⟩
 have b22:=D22.bd
 have D23:Ci K mg "unchecked_text" Dl ["page","body","size"] f23 _:=⟨By cl23 cc23 ck23,PySem.W.mg_of X G ca23,Bk fun us hl=>match us,hl with|[_,_,_],_=>rfl⟩
 have b23:=D23.bd
 have D24:Ci K mg "page_text" Gf ["page","size"] f24 _:=⟨By cl24 cc24 ck24,PySem.W.mg_of X G ca24,Bk fun us hl=>match us,hl with|[_,_],_=>rfl⟩
 have b24:=D24.bd
 have D25:Ci K mg "leads_to" Hn ["page"] f25 _:=⟨By cl25 cc25 ck25,PySem.W.mg_of X G ca25,Bk fun us hl=>match us,hl with|[_],_=>rfl⟩
 have b25:=D25.bd
 have D26:Ci K mg "_law_cell_at" Ec ["_law_script","_law_k"] f26 _:=⟨By cl26 cc26 ck26,PySem.W.mg_of X G ca26,Bk fun us hl=>match us,hl with|[_,_],_=>rfl⟩
 have b26:=D26.bd
 have D27:Ci K mg "_law_next" Gg ["_law_state"] f27 _:=⟨By cl27 cc27 ck27,PySem.W.mg_of X G ca27,Bk fun us hl=>match us,hl with|[_],_=>rfl⟩
 have b27:=D27.bd
 have D28:Ci K mg "_law_whole" Fb ["_law_found","_law_due"] f28 _:=⟨By cl28 cc28 ck28,PySem.W.mg_of X G ca28,Bk fun us hl=>match us,hl with|[_,_],_=>rfl⟩
 have b28:=D28.bd
 have D29:Ci K mg "_law_signs" Fd [] f29 _:=⟨By cl29 cc29 ck29,PySem.W.mg_of X G ca29,Bk fun us hl=>match us,hl with|[],_=>rfl⟩
 have b29:=D29.bd
 have D30:Ci K mg "_law_text" Gh ["_law_number","_law_size"] f30 _:=⟨By cl30 cc30 ck30,PySem.W.mg_of X G ca30,Bk fun us hl=>match us,hl with|[_,_],_=>rfl⟩
 have b30:=D30.bd
 have D31:Ci K mg "_law_digits" Ep ["_law_number","_law_many"] f31 _:=⟨By cl31 cc31 ck31,PySem.W.mg_of X G ca31,Bk fun us hl=>match us,hl with|[_,_],_=>rfl⟩
 have b31:=D31.bd
 have D32:Ci K mg "_law_check" Fe ["_law_text_here"] f32 _:=⟨By cl32 cc32 ck32,PySem.W.mg_of X G ca32,Bk fun us hl=>match us,hl with|[_],_=>rfl⟩
 have b32:=D32.bd
 have D33:Ci K mg "_law_rising" Er ["_law_state","_law_many"] f33 _:=⟨By cl33 cc33 ck33,PySem.W.mg_of X G ca33,Bk fun us hl=>match us,hl with|[_,_],_=>rfl⟩
 have b33:=D33.bd
 have D34:Ci K mg "_law_cell" Gi ["_law_state","_law_size"] f34 _:=⟨By cl34 cc34 ck34,PySem.W.mg_of X G ca34,Bk fun us hl=>match us,hl with|[_,_],_=>rfl⟩
 have b34:=D34.bd
 have D35:Ci K mg "_law_body" Gj ["_law_page_here"] f35 _:=⟨By cl35 cc35 ck35,PySem.W.mg_of X G ca35,Bk fun us hl=>match us,hl with|[_],_=>rfl⟩
 have b35:=D35.bd
 have D36:Ci K mg "_law_page" Gk ["_law_state","_law_size"] f36 _:=⟨By cl36 cc36 ck36,PySem.W.mg_of X G ca36,Bk fun us hl=>match us,hl with|[_,_],_=>rfl⟩
 have b36:=D36.bd
 have D37:Ci K mg "_law_page_text" Dm ["_law_page_here","_law_size"] f37 _:=⟨By cl37 cc37 ck37,PySem.W.mg_of X G ca37,Bk fun us hl=>match us,hl with|[_,_],_=>rfl⟩
 have b37:=D37.bd
 have D38:Ci K mg "_law_leads" Ff ["_law_page_here"] f38 _:=⟨By cl38 cc38 ck38,PySem.W.mg_of X G ca38,Bk fun us hl=>match us,hl with|[_],_=>rfl⟩
 have b38:=D38.bd
 have D39:Ci K mg "_law_grown" Fg ["_law_state","_law_page_here","_law_size"] f39 _:=⟨By cl39 cc39 ck39,PySem.W.mg_of X G ca39,Bk fun us hl=>match us,hl with|[_,_,_],_=>rfl⟩
 have b39:=D39.bd
 have D40:Ci K mg "_law_too_long" Dt ["_law_page_here","_law_size"] f40 _:=⟨By cl40 cc40 ck40,PySem.W.mg_of X G ca40,Bk fun us hl=>match us,hl with|[_,_],_=>rfl⟩
 have b40:=D40.bd
 have D41:Ci K mg "law" Pn ["_law_script"] f41 _:=⟨By cl41 cc41 ck41,PySem.W.mg_of X G ca41,Bk fun us hl=>match us,hl with|[_],_=>rfl⟩
 have b41:=D41.bd
 have F42:=By (st:=Cq) cl42 cc42 ck42
 have b42:Binds K (PySem.W.fnOf "__init__" "BadPage.__init__" (Bd Cq) (An Cq) (Ad Cq) (.ref t42) kV42 dc42 pm42 an42 cd42 ct42) ["self","number","words"] []:=fun s us KX hl=>by
  have hl':us.length=3:=by simpa using hl
  exact match us,hl' with|[_,_,_],_=>.of_defaults rfl (KX _ _ dl42) rfl rfl rfl
 have v42:Binds K (PySem.W.fnOf "__init__" "BadPage.__init__" (Bd Cq) (An Cq) (Ad Cq) (.ref t42) kV42 dc42 pm42 an42 cd42 ct42) ["self","number","words"] [.none,(.str "no page as it is wanted" dk42_1)]:=fun s us KX hl=>by
  have hl':us.length=1:=by simpa using hl
  exact match us,hl' with|[_],_=>.of_defaults rfl (KX _ _ dl42) rfl rfl rfl
 refine⟨PySem.W.fnOf "law" "law" (Bd Pn) (An Pn) (Ad Pn) .none kV41 dc41 pm41 an41 cd41 ct41,fun s v=>.of_eq rfl,fun base _ _=>Axn (cl:=addrs [c0,c1,c2,c3,c4]) (g:=Aic) law fun l' ns=>?_⟩
 let Θ:=Asd K (addrs [c0,c1,c2,c3,c4]) l' ns
 have M:(md ns).Ok Θ K mg:={
  hK:=rfl,ns:=rfl
  con:=AllP.at (L:=Ba4) (P:=Ano Θ mg) ⟨Ahz (PySem.W.mg_of X G g0),Ex (PySem.W.mg_of X G g1),Ex (PySem.W.mg_of X G g2),Ex (PySem.W.mg_of X G g3),Ahz (PySem.W.mg_of X G g4),Ex (PySem.W.mg_of X G g5),Ex (PySem.W.mg_of X G g6),Ex (PySem.W.mg_of X G g7),Ex (PySem.W.mg_of X G g8),Ex (PySem.W.mg_of X G g9),Ex (PySem.W.mg_of X G g10),Ex (PySem.W.mg_of X G g11),Ex (PySem.W.mg_of X G g12),Ex (PySem.W.mg_of X G g13),Ex (PySem.W.mg_of X G g14),Ex (PySem.W.mg_of X G g15),Ex (PySem.W.mg_of X G g16),Sw (PySem.W.mg_none_of X G z12) (by kernel_rfl),Sw (PySem.W.mg_none_of X G z13) (by kernel_rfl),Sw (PySem.W.mg_none_of X G z14) (by kernel_rfl),Sw (PySem.W.mg_none_of X G z6) (by kernel_rfl),Sw (PySem.W.mg_none_of X G z7) (by kernel_rfl),Sw (PySem.W.mg_none_of X G z15) (by kernel_rfl),Q7 (PySem.W.mg_of X G C0),Q7 (PySem.W.mg_of X G C1),Q7 (PySem.W.mg_of X G C2),Q7 (PySem.W.mg_of X G C3),Q7 (PySem.W.mg_of X G C4),trivial⟩
  bi:=AllB.at (L:=biL) (P:=fun x=>mg x=none) ⟨PySem.W.mg_none_of X G z0,PySem.W.mg_none_of X G z1,PySem.W.mg_none_of X G z2,PySem.W.mg_none_of X G z3,PySem.W.mg_none_of X G z4,PySem.W.mg_none_of X G z5,PySem.W.mg_none_of X G z6,PySem.W.mg_none_of X G z7,PySem.W.mg_none_of X G z8,PySem.W.mg_none_of X G z9,PySem.W.mg_none_of X G z10,PySem.W.mg_none_of X G z11,trivial⟩
  isa:=Axq isL veL
  exc:=AllP.at (L:=Ba5) (P:=fun x c=>Θ.xf c=none∧Yj K (Θ.cl c)∧mg x=some (.ref (Θ.cl c))) ⟨⟨rfl,x0,PySem.W.mg_of X G C0⟩,⟨rfl,x1,PySem.W.mg_of X G C1⟩,⟨rfl,x2,PySem.W.mg_of X G C2⟩,⟨rfl,x3,PySem.W.mg_of X G C3⟩,trivial⟩
  mdc:=AllP.at (L:=Ba9) (P:=fun x D=>∃a,Aj2 K a D∧mg x=some (.ref a)) ⟨⟨_,Asi mt0,PySem.W.mg_of X G mg0⟩,trivial⟩
  hcl:=AllP.at (L:=Ba7) (P:=fun x k=>mg x=some (.ref (Θ.cl k))) ⟨PySem.W.mg_of X G C0,trivial⟩
  exm:=fun k c h=>⟨rfl,Axr exL k c h⟩ }
 have hI:XiT Θ (md ns) l.prog w K mg base 1:=fun x c dv h=>AllP.at (L:=Ba6) (P:=fun x (p:Nat×List W)=>Θ.xf p.1=none∧mg x=some (.ref (Θ.cl p.1))∧∃(fI:Addr) (fd:FuncData) (ps:List Str) (dvs:List V) (ds:List Value),Aa5 K (Θ.cl p.1) fI=true∧PySem.W.keepIn K (.ref (Θ.cl p.1))=true∧PySem.W.typeIn K (.ref fI)=some (.type "function")∧Ib l.prog w K mg base (CXo l.prog w) 1 fI fd ps (Ajp (Θ.cl p.1)) true∧Binds K fd ps ds∧Vals dvs ds∧dvs.length=p.2.length) ⟨⟨rfl,PySem.W.mg_of X G C4,f42,_,_,[],[],xa42,xk42,Ash xf42,Azs F42 Vk rfl (PySem.W.mg_of X G C0) (Bas xb42) (Bar xs42) xa42 (by decide +kernel) (by decide +kernel) (by decide +kernel) (by decide +kernel) (by decide +kernel) (by decide +kernel) (by decide +kernel),b42,.nil,rfl⟩,trivial⟩ x (c,dv) h
 have t_0:Tbl Θ l.prog w K mg base 2 (T_0 ns):=Tbl.nil
 have t_is_whole:Tbl Θ l.prog w K mg base 3 (Qh ns):=Tbl.cons (dv:=[]) t_0 hI (by decide) M D0 Aea rfl .nil b0 (Agj ns)
 have t_is_text:Tbl Θ l.prog w K mg base 4 (Tj ns):=Tbl.cons (dv:=[]) t_is_whole hI (by decide) M D1 Agk rfl .nil b1 (Akc ns)
 have t_digits:Tbl Θ l.prog w K mg base 5 (Xf ns):=Tbl.cons (dv:=[]) t_is_text hI (by decide) M D2 Akd rfl .nil b2 (An8 ns)
 have t_check_of:Tbl Θ l.prog w K mg base 6 (Qj ns):=Tbl.cons (dv:=[]) t_digits hI (by decide) M D3 Aed rfl .nil b3 (Agl ns)
 have t_is_key:Tbl Θ l.prog w K mg base 7 (Xi ns):=Tbl.cons (dv:=[]) t_check_of hI (by decide) M D4 Ake rfl .nil b4 (An9 ns)
 have t_is_size:Tbl Θ l.prog w K mg base 8 (Tn ns):=Tbl.cons (dv:=[]) t_is_key hI (by decide) M D5 Agm rfl .nil b5 (Akf ns)
 have t_room_of:Tbl Θ l.prog w K mg base 9 (Tq ns):=Tbl.cons (dv:=[]) t_is_size hI (by decide) M D6 Agn rfl .nil b6 (Akg ns)
 have t_is_number:Tbl Θ l.prog w K mg base 10 (Nz ns):=Tbl.cons (dv:=[(.int 0)]) t_room_of hI (by decide) M D7 Abw rfl ((.cons ⟨_,rfl⟩ .nil)) v7 (Aeg ns)
 have t_is_text_of:Tbl Θ l.prog w K mg base 11 (Mr ns):=Tbl.cons (dv:=[]) t_is_number hI (by decide) M D8 Yn rfl .nil b8 (Abx ns)
 have t_is_tuple_of:Tbl Θ l.prog w K mg base 12 (K1 ns):=Tbl.cons (dv:=[]) t_is_text_of hI (by decide) M D9 Xj rfl .nil b9 (Yo ns)
 have t_word_of:Tbl Θ l.prog w K mg base 13 (Tr ns):=Tbl.cons (dv:=[]) t_is_tuple_of hI (by decide) M D10 Ago rfl .nil b10 (Akh ns)
 have t_are_rising_keys:Tbl Θ l.prog w K mg base 14 (Hx ns):=Tbl.cons (dv:=[]) t_word_of hI (by decide) M D11 Qk rfl .nil b11 (Rh ns)
 have t_is_cell:Tbl Θ l.prog w K mg base 15 (Tt ns):=Tbl.cons (dv:=[]) t_are_rising_keys hI (by decide) M D12 Agp rfl .nil b12 (Aki ns)
 have t_are_rows:Tbl Θ l.prog w K mg base 16 (Qm ns):=Tbl.cons (dv:=[]) t_is_cell hI (by decide) M D13 Aeh rfl .nil b13 (Agq ns)
 have t_are_keys:Tbl Θ l.prog w K mg base 17 (Qo ns):=Tbl.cons (dv:=[]) t_are_rows hI (by decide) M D14 Aei rfl .nil b14 (Agr ns)
 have t_are_kids:Tbl Θ l.prog w K mg base 18 (Qq ns):=Tbl.cons (dv:=[]) t_are_keys hI (by decide) M D15 Aej rfl .nil b15 (Ags ns)
 have t_is_page:Tbl Θ l.prog w K mg base 19 (Tu ns):=Tbl.cons (dv:=[]) t_are_kids hI (by decide) M D16 Agt rfl .nil b16 (Akj ns)
 have t_numbers_text:Tbl Θ l.prog w K mg base 20 (J9 ns):=Tbl.cons (dv:=[]) t_is_page hI (by decide) M D17 Vh rfl .nil b17 (Xq ns)
 have t_key_text:Tbl Θ l.prog w K mg base 21 (Qs ns):=Tbl.cons (dv:=[]) t_numbers_text hI (by decide) M D18 Aek rfl .nil b18 (Agu ns)
 have t_cell_text:Tbl Θ l.prog w K mg base 22 (N8 ns):=Tbl.cons (dv:=[]) t_key_text hI (by decide) M D19 Aby rfl .nil b19 (Ael ns)
 have t_row_text:Tbl Θ l.prog w K mg base 23 (Qt ns):=Tbl.cons (dv:=[]) t_cell_text hI (by decide) M D20 Aem rfl .nil b20 (Agv ns)
 have t_body_text:Tbl Θ l.prog w K mg base 24 (Ob ns):=Tbl.cons (dv:=[]) t_row_text hI (by decide) M D21 Abz rfl .nil b21 (Aen ns)
 have t_body_of:Tbl Θ l.prog w K mg base 25 (Tv ns):=Tbl.cons (dv:=[]) t_body_text hI (by decide) M D22 Agw rfl .nil b22 (Akk ns)
 have t_unchecked_text:Tbl Θ l.prog w K mg base 26 (Iw ns):=Tbl.cons (dv:=[]) t_body_of hI (by decide) M D23 Ri rfl .nil b23 (Tw ns)
 have t_page_text:Tbl Θ l.prog w K mg base 27 (Oc ns):=Tbl.cons (dv:=[]) t_unchecked_text hI (by decide) M D24 Ab0 rfl .nil b24 (Aeo ns)
 have t_leads_to:Tbl Θ l.prog w K mg base 28 (Qu ns):=Tbl.cons (dv:=[]) t_page_text hI (by decide) M D25 Aep rfl .nil b25 (Agx ns)
 have t__law_cell_at:Tbl Θ l.prog w K mg base 29 (Kc ns):=Tbl.cons (dv:=[]) t_leads_to hI (by decide) M D26 Vi rfl .nil b26 (Xz ns)
 have t__law_next:Tbl Θ l.prog w K mg base 30 (Oh ns):=Tbl.cons (dv:=[]) t__law_cell_at hI (by decide) M D27 Ab1 rfl .nil b27 (Aeq ns)
 have t__law_whole:Tbl Θ l.prog w K mg base 31 (Mu ns):=Tbl.cons (dv:=[]) t__law_next hI (by decide) M D28 Yp rfl .nil b28 (Ab2 ns)
 have t__law_signs:Tbl Θ l.prog w K mg base 32 (Mv ns):=Tbl.cons (dv:=[]) t__law_whole hI (by decide) M D29 Yq rfl .nil b29 (Ab3 ns)
 have t__law_text:Tbl Θ l.prog w K mg base 33 (Oi ns):=Tbl.cons (dv:=[]) t__law_signs hI (by decide) M D30 Ab4 rfl .nil b30 (Aer ns)
 have t__law_digits:Tbl Θ l.prog w K mg base 34 (K3 ns):=Tbl.cons (dv:=[]) t__law_text hI (by decide) M D31 X3 rfl .nil b31 (Yr ns)
 have t__law_check:Tbl Θ l.prog w K mg base 35 (Mx ns):=Tbl.cons (dv:=[]) t__law_digits hI (by decide) M D32 Ys rfl .nil b32 (Ab5 ns)
 have t__law_rising:Tbl Θ l.prog w K mg base 36 (K7 ns):=Tbl.cons (dv:=[]) t__law_check hI (by decide) M D33 X4 rfl .nil b33 (Yt ns)
 have t__law_cell:Tbl Θ l.prog w K mg base 37 (Oj ns):=Tbl.cons (dv:=[]) t__law_rising hI (by decide) M D34 Ab6 rfl .nil b34 (Aes ns)
 have t__law_body:Tbl Θ l.prog w K mg base 38 (Ol ns):=Tbl.cons (dv:=[]) t__law_cell hI (by decide) M D35 Ab7 rfl .nil b35 (Aet ns)
 have t__law_page:Tbl Θ l.prog w K mg base 39 (Oo ns):=Tbl.cons (dv:=[]) t__law_body hI (by decide) M D36 Ab8 rfl .nil b36 (Aeu ns)
 have t__law_page_text:Tbl Θ l.prog w K mg base 40 (Iz ns):=Tbl.cons (dv:=[]) t__law_page hI (by decide) M D37 Rq rfl .nil b37 (Tz ns)
 have t__law_leads:Tbl Θ l.prog w K mg base 41 (Mz ns):=Tbl.cons (dv:=[]) t__law_page_text hI (by decide) M D38 Yu rfl .nil b38 (Ab9 ns)
 have t__law_grown:Tbl Θ l.prog w K mg base 42 (M3 ns):=Tbl.cons (dv:=[]) t__law_leads hI (by decide) M D39 Yv rfl .nil b39 (Aca ns)
 have t__law_too_long:Tbl Θ l.prog w K mg base 43 (M9 ns):=Tbl.cons (dv:=[]) t__law_grown hI (by decide) M D40 Ua rfl .nil b40 (Vj ns)
 exact t__law_too_long.fn hI (by decide) M D41 Axw (Bba ns)
section
variable {P:SP} {ns:List Int}
theorem Ja (i:Int):Pu P (Gb ns [.int i]) (.bl true):=fun S _=>⟨[],by rw[List.append_nil];rfl⟩
theorem Vw (v:Int) (h0:0≤v) (h:v < 64):Pu P (ixW ns (.str "0123456789abcdefghijklmnopqrstuvwxyzABCDEFGHIJKLMNOPQRSTUVWXYZ+-") (.int v)) (.str (M1.one (M1.sg v.toNat))):=by
 obtain⟨k,rfl⟩:=Int.eq_ofNat_of_zero_le h0
 have hk:k < 64:=by omega
 have e:atI M1.sgs.cps.toList (k:Int)=some (M1.sg k):=by
  unfold atI ixN
  rw[if_pos h0,if_pos (by rw[Array.length_toList,M1.Ad8];exact h)]
  show M1.sgs.cps.toList[((k:Nat):Int).toNat]?=_
  rw[Int.toNat_natCast,M1.Axv hk]
 show Pu P (if M1.sgs.length≤big then Aba ((atI M1.sgs.cps.toList (k:Int)).map fun c=>W.str ⟨#[c]⟩) else bad) _
 rw[e]
 exact Kp (by decide +kernel) Pu.pure
theorem Axy {n:Int} (h:0≤n):Builtin.bitAnd n 63=n % 64:=bitAnd_m6 _
theorem X5 {n:Int} (h0:0≤n) {t:Str} (ht:t.length≤10) {a b c:Option W}:PuN P (Ak (Bx 2 (Ar .add (ixF ns (kF (.str "0123456789abcdefghijklmnopqrstuvwxyzABCDEFGHIJKLMNOPQRSTUVWXYZ+-")) (Ar .and (Ac 3) (kF (.int 63)))) (Ac 2))) (Ak (Bx 3 (Ar .shr (Ac 3) (kF (.int 6)))) Am))
  [a,b,some (.str t),some (.int n),c] [a,b,some (.str (M1.one (M1.sg (n % 64).toNat) ++ t)),some (.int (n / 64)),c]:=by
 refine Nf (Bh (Al (Aw Ae (Al (Af rfl) Ae Aj6) ?_) (Af rfl) (Bs ?_))) (Nf (Bh (Al (Af rfl) Ae (Af8 (by decide)))) Av)
 .rw[Axy h0]
  exact Vw _ (by omega) (by omega)
 .show 1+t.length≤big
  unfold big
  omega
theorem Asv {n:Int} (h0:0≤n) (h1:n < 64):Pu P (Fo ns [.int n,.int 1]) (.str (M1.Cw 1 n)):=by
 apply Bq rfl
 refine Ca (Dk (Gy (Ef (Aj (Ai (Ab (Af rfl) Ag) (Ja n)))) (Aj (Ao (Af rfl) Ae Zq))) (by simp;omega) Av) ?_
 refine Ca (Dk (Gy (Ef (Aj (Ai (Ab (Af rfl) Ag) (Ja 1)))) (Gy (Aj (Ao (Af rfl) Ae Zq)) (Aj (Ao (Af rfl) Ae Ln)))) rfl Av) ?_
 refine Ca (Dk (Aj (Ao (Al (Af rfl) (Al Ae (Af rfl) (Gs (by decide +kernel))) (Af8 (by decide))) Ae Ln)) (by
  have:n / 64=0:=by omega
  simp
  show n / 64≤0
  omega) Av) ?_
 refine Ca (Bh Ae) (Ca (Bh (Af rfl)) ?_)
 refine Ca (Mm (Hc (k:=1) (Ab (Af rfl) Ag) (by decide)) (J4 rfl (X5 h0 (by decide +kernel)) Q9)) (Bm (Bf (Pu.cast (Af rfl) ?_)))
 show W.str (M1.one (M1.sg (n % 64).toNat) ++ ⟨#[]⟩)=W.str (M1.one (M1.sg (n / 64 ^ 0 % 64).toNat) ++ ⟨#[]⟩)
 rw[Int.pow_zero,Int.ediv_one]
theorem Acb {n:Int} (h0:0≤n) (h1:n < 4096):Pu P (Fo ns [.int n,.int 2]) (.str (M1.Cw 2 n)):=by
 apply Bq rfl
 refine Ca (Dk (Gy (Ef (Aj (Ai (Ab (Af rfl) Ag) (Ja n)))) (Aj (Ao (Af rfl) Ae Zq))) (by simp;omega) Av) ?_
 refine Ca (Dk (Gy (Ef (Aj (Ai (Ab (Af rfl) Ag) (Ja 2)))) (Gy (Aj (Ao (Af rfl) Ae Zq)) (Aj (Ao (Af rfl) Ae Ln)))) rfl Av) ?_
 refine Ca (Dk (Aj (Ao (Al (Af rfl) (Al Ae (Af rfl) (Gs (by decide +kernel))) (Af8 (by decide))) Ae Ln)) (by
  simp
  show n / 4096≤0
  omega) Av) ?_
 refine Ca (Bh Ae) (Ca (Bh (Af rfl)) ?_)
 refine Ca (Mm (Hc (k:=2) (Ab (Af rfl) Ag) (by decide)) (J4 rfl (X5 h0 (by decide +kernel)) (J4 rfl (X5 (by omega) (by show 1+0≤10;decide)) Q9))) (Bm (Bf (Pu.cast (Af rfl) ?_)))
 show W.str (M1.one (M1.sg (n / 64 % 64).toNat) ++ (M1.one (M1.sg (n % 64).toNat) ++ ⟨#[]⟩))=W.str (M1.one (M1.sg (n / 64 ^ 1 % 64).toNat) ++ (M1.one (M1.sg (n / 64 ^ 0 % 64).toNat) ++ ⟨#[]⟩))
 rw[Int.pow_zero,Int.ediv_one]
 rfl
end
section
variable {P:SP} {ns:List Int}
theorem Asw {c:Nat}:Pu P (Amk [.str ⟨#[c]⟩]) (.int (c:Nat)):=Pu.pure
theorem Acd {δ:De} {f:De->M W} {gs:De->M (List W)} {op:W->List W->M W} {z:Str} {ws:List W} {w:W} (h1:Pu P (f δ) (.str z)) (h2:Pu P (gs δ) ws) (h3:Pu P (op (.str z) ws) w):Pu P (Ji .str op f gs δ) w:=by
 refine h1.bind (Pu.bind (a:=()) (fun S _=>⟨[],?_⟩) (h2.bind h3))
 rw[List.append_nil]
 rfl
theorem Aoa {z y:Str} (hz:z.length≤big):Pu P (Abe (.str z) [.str y]) (.str (Txt.stripChars z y)):=Kp hz Pu.pure
theorem Akl:("":Str)=⟨#[]⟩:=by decide +kernel
theorem Ace (z:Str) (hz:z.length≤big):Pu P (Lp ns [.str z]) (.bl (M2.Ea z)):=by
 apply Bq rfl
 apply Bm
 apply Bf
 refine Cj (Ai (Ab (Af rfl) (Ab Ae Ag)) (fun S _=>⟨[],by rw[List.append_nil];rfl⟩)) ?_
 refine Pu.cast (Ao (Acd (Af rfl) (Ab Ae Ag) (Aoa hz)) Ae Anw) ?_
 show W.bl (Txt.stripChars z M2.tsg==("":Str))=_
 rw[Akl,M2.Agi]
theorem len_str {z:Str} (hz:z.length≤big):Pu P (Cv ns [.str z]) (.int z.length):=Kp hz Pu.pure
theorem Es {ws:List W}:Pu P (Cv ns [.tup ws]) (.int ws.length):=Pu.pure
theorem Acf {z:Str}:Pu P (Jq isa [.str z,.ty "str"]) (.bl true):=fun S _=>⟨[],by rw[List.append_nil];rfl⟩
theorem Vx {ws:List W}:Pu P (Jq isa [.tup ws,.ty "tuple"]) (.bl true):=fun S _=>⟨[],by rw[List.append_nil];rfl⟩
def isKey (z:Str):Bool:=M2.Ea z&&(decide (1≤z.length)&&decide (z.length≤12))
theorem Aob (z:Str) (hz:z.length≤big):Pu P (Lq ns [.str z]) (.bl (isKey z)):=by
 apply Bq rfl
 apply Bm
 apply Bf
 refine Pu.cast (Abm (Ai (Ab (Af rfl) Ag) (Ace z hz)) (Nt Ae (Ai (Ab (Af rfl) Ag) (len_str hz)) Lk Ae Lk)) ?_
 unfold isKey
 congr 3
 .exact decide_eq_decide.mpr (by omega)
 .exact decide_eq_decide.mpr (by omega)
def Eu (n k:Int):Bool:=decide (k≤n)&&decide (n≤4095)
theorem Agy (n k:Int):Pu P (Dv ns [.int n,.int k]) (.bl (Eu n k)):=by
 apply Bq rfl
 apply Bm
 apply Bf
 exact Cj (Ai (Ab (Af rfl) Ag) (Ja n)) (Nt (Af rfl) (Af rfl) Lk Ae Lk)
theorem Aad (z:Str) (a b:Int) (hz:z.length≤big):Pu P (Ju ns [.str z,.int a,.int b]) (.bl (M2.Ea z&&(decide (a≤z.length)&&decide ((z.length:Int)≤b)))):=by
 apply Bq rfl
 apply Bm
 apply Bf
 exact Abm (Ai (Ab (Af rfl) Ag) (Ace z hz)) (Nt (Af rfl) (Ai (Ab (Af rfl) Ag) (len_str hz)) Lk (Af rfl) Lk)
theorem Aev (ws:List W) (n:Int):Pu P (G7 ns [.tup ws,.int n]) (.bl ((ws.length:Int)==n)):=by
 apply Bq (ws:=[.tup ws,.int n]) rfl
 apply Bm
 apply Bf
 exact Cj (Ai (Ab (Af rfl) (Ab Ae Ag)) Vx) (Ao (Ai (Ab (Af rfl) Ag) Es) (Af rfl) J5)
theorem Aq {ws:List W} {w:W} {i:Int} (h:atI ws i=some w):Pu P (ixW ns (.tup ws) (.int i)) w:=by
 show Pu P (Aba (atI ws i)) w
 rw[h]
 exact Pu.pure
theorem M4 (z:Str) (ws:List W):Pu P (O2 ns [.tup (.str z::ws)]) (.str z):=by
 have e:atI (W.str z::ws) 0=some (W.str z):=by
  unfold atI ixN
  rw[if_pos (by decide),if_pos (by rw[List.length_cons];omega)]
  rfl
 apply Bq rfl
 apply Bm
 apply Nu
 .apply Ah4
  .apply Aj
   exact Ai (Ab (Af rfl) (Ab Ae Ag)) Vx
  apply Ah4
  .apply Aj
   exact Ao (Ai (Ab (Af rfl) Ag) Es) Ae Ln
  .apply Aj
   exact Ai (Ab (Aw (Af rfl) Ae (Aq e)) (Ab Ae Ag)) Acf
 .simp
 .exact Bm (Bf (Aw (Af rfl) Ae (Aq e)))
end
inductive Cl where
 |inn (t:Str)
 |out (n p:Int)
def Cl.w:Cl->W
 |.inn t=>.tup [.str "in",.str t]
 |.out n p=>.tup [.str "out",.int n,.int p]
def Cl.ok:Cl->Bool
 |.inn t=>M2.Ea t&&decide (t.length≤63)
 |.out n p=>decide (1≤n)&&decide (n≤400)&&Eu p 1
inductive Pg where
 |head (a b c d:Int)
 |leaf (rs:List (Str×Cl))
 |fork (ks:List Str) (ps:List Int)
 |rest (t:Str) (n:Int)
 |free (n:Int)
def Km (r:Str×Cl):W:=.tup [.str r.1,r.2.w]
def Pg.w:Pg->W
 |.head a b c d=>.tup [.str "head",.int a,.int b,.int c,.int d]
 |.leaf rs=>.tup [.str "leaf",.tup (rs.map Km)]
 |.fork ks ps=>.tup [.str "fork",.tup (ks.map W.str),.tup (ps.map W.int)]
 |.rest t n=>.tup [.str "rest",.str t,.int n]
 |.free n=>.tup [.str "free",.int n]
section
variable {P:SP} {ns:List Int}
theorem Asx (c:Cl) (h:c.ok=true):Pu P (O3 ns [c.w]) (.bl true):=by
 cases c with
 |inn t=>
  unfold Cl.ok at h
  rw[Bool.and_eq_true,decide_eq_true_eq] at h
  apply Bq (ws:=[Cl.w (.inn t)]) rfl
  apply Ca
  .apply Bh
   exact Ai (Ab (Af rfl) Ag) (M4 _ _)
  apply Bm
  apply Nu
  .apply Aj
   exact Ao (Af rfl) Ae (Ay (by decide +kernel) (by decide +kernel))
  .decide +kernel
  .apply Bm
   apply Bf
   refine Pu.cast (Cj (Ao (Ai (Ab (Af rfl) Ag) Es) Ae J5) (Ai (Ab (Aw (Af rfl) Ae (Aq rfl)) (Ab Ae (Ab Ae Ag))) (Aad t 0 63 (Nat.le_trans h.2 (by decide))))) ?_
   rw[h.1,decide_eq_true (by omega),decide_eq_true (by omega)]
   rfl
 |out n p=>
  unfold Cl.ok at h
  rw[Bool.and_eq_true,Bool.and_eq_true] at h
  apply Bq (ws:=[Cl.w (.out n p)]) rfl
  apply Ca
  .apply Bh
   exact Ai (Ab (Af rfl) Ag) (M4 _ _)
  apply Ca
  .apply Dk
   .apply Aj
    exact Ao (Af rfl) Ae (Ay (by decide +kernel) (by decide +kernel))
   .decide +kernel
   .exact Av
  apply Bm
  apply Nu
  .apply Aj
   exact Ao (Af rfl) Ae (Ay (by decide +kernel) (by decide +kernel))
  .decide +kernel
  .apply Bm
   apply Bf
   refine Pu.cast (Cj (Ao (Ai (Ab (Af rfl) Ag) Es) Ae J5) (Cj (Ai (Ab (Aw (Af rfl) Ae (Aq rfl)) Ag) (Ja n)) (Abm (Nt Ae (Aw (Af rfl) Ae (Aq rfl)) Lk Ae Lk) (Ai (Ab (Aw (Af rfl) Ae (Aq rfl)) (Ab Ae Ag)) (Agy p 1))))) ?_
   rw[h.1.1,h.1.2,h.2]
   rfl
end
def Pq (ks:List Str):Bool:=(ks.zip (ks.drop 1)).all fun p=>Je p.1 p.2
theorem Bbb (ws:List W):Adb ws (some 1) none=ws.drop 1:=by
 unfold Adb
 cases ws with
 |nil=>rfl
 |cons w ws=>
  have e:HT.sIx (w::ws).length 0 (some 1)=1:=by
   rw[show (1:Int)=((1:Nat):Int) from rfl,HT.sIx_nat,List.length_cons]
   omega
  rw[e]
  show (ws.drop 0).take ((w::ws).length - 1)=ws.drop 0
  rw[List.length_cons,Nat.add_sub_cancel,List.drop_zero,List.take_length]
theorem zip_get (ks ls:List Str) (j:Nat):(ks.zip ls)[j]?.map (fun p=>W.tup [.str p.1,.str p.2])=match (ks.map W.str)[j]?,(ls.map W.str)[j]? with|some a,some b=>some (.tup [a,b])|_,_=>none:=by
 rw[List.getElem?_map,List.getElem?_map,List.zip,List.getElem?_zipWith]
 cases ks[j]? <;> cases ls[j]? <;> rfl
section
variable {P:SP} {ns:List Int}
theorem Bbc {ks:List Str} {n:Nat} (h0:∀S,P.p S->AtL n (ks.map W.str) S) (hl:ks.length≤big) (hk:∀k∈ks,isKey k=true):Pu P (Dr ns [.ref n]) (.bl (Pq ks)):=by
 apply Bq (ws:=[.ref n]) rfl
 apply Ca
 .apply Dk
  .apply Ef
   apply Aj
   refine Ny (bs:=ks.map fun _=>true) ?_
   have h:=Abq (P:=P) (xs:=ks) (φ:=W.str) (ψ:=fun _=>W.bl true) (τ:=fun _=>true) (s:=Cr 0) (t:=fun _=>pure true) (e:=Ah (Lq ns) (Aa (Ac 0) nilF)) (k:=1) (cap:=[]) (δ:=Bp 1 [.ref n]) (src:=Eh ns (Ac 0)) (n:=n) h0
    (fun S hS=>⟨[],by
     have:=h0 S hS
     unfold AtL at this
     show (match S[n]? with|some (.lst _)=>R.ok (Src.liv n) S|_=>.bad)=_
     rw[this,List.append_nil]⟩) Ra (fun k hk'=>⟨Pu.pure,fun _=>(Ai (Ab (Af rfl) Ag) (Aob k (by
      have:=hk k hk'
      unfold isKey at this
      simp only[Bool.and_eq_true,decide_eq_true_eq] at this
      exact Nat.le_trans this.2.2 (by decide)))).cast (by rw[hk k hk'])⟩) ⟨none,rfl⟩ hl
   rw[List.filter_eq_self.mpr (fun _ _=>rfl)] at h
   rw[List.map_map]
   exact h
  .simp
  .exact Av
 .apply Bm
  apply Bf
  refine Pu.cast (Ny (bs:=(ks.zip (ks.drop 1)).map fun p=>Je p.1 p.2) ?_) ?_
  .have h:=Asm (P:=P) (xs:=ks.zip (ks.drop 1)) (φ:=fun p=>W.tup [.str p.1,.str p.2]) (ψ:=fun p=>W.bl (Je p.1 p.2)) (τ:=fun _=>true) (s:=Q5 [0,1]) (t:=fun _=>pure true) (e:=Bc .Lt (Ac 0) (Ac 1)) (k:=2) (cap:=[]) (δ:=Bp 1 [.ref n]) (src:=Aj1 (Aa (Ac 0) (Aa (slF ns (Ac 0) (Fx (kF (.int 1))) Ed) nilF))) (us:=ks.map W.str) (vs:=(ks.drop 1).map W.str)
    (fun S hS=>by
     have a0:=h0 S hS
     have e0:=a0
     unfold AtL at e0
     refine⟨[.lst ((ks.drop 1).map W.str)],n,S.length,?_,a0.app _,?_⟩
     .have e1:slF ns (Ac 0) (Fx (kF (.int 1))) Ed (Bp 1 [.ref n]) S=.ok (.ref S.length) (S ++ [.lst ((ks.drop 1).map W.str)]):=by
       show (match S[n]? with|some (.lst ws)=>Bu (Adb ws (some 1) none) S|_=>.bad)=_
       rw[e0]
       dsimp only
       unfold Bu
       rw[Bbb,←List.map_drop,if_pos (by rw[List.length_map,List.length_drop];omega)]
      have e2:Aa (Ac 0) (Aa (slF ns (Ac 0) (Fx (kF (.int 1))) Ed) nilF) (Bp 1 [.ref n]) S=.ok [.ref n,.ref S.length] (S ++ [.lst ((ks.drop 1).map W.str)]):=by
       have e3:Aa (slF ns (Ac 0) (Fx (kF (.int 1))) Ed) nilF (Bp 1 [.ref n]) S=.ok [.ref S.length] (S ++ [.lst ((ks.drop 1).map W.str)]):=by
        unfold Aa
        rw[Br,e1]
        rfl
       rw[Aa,Br,show Ac 0 (Bp 1 [.ref n]) S=.ok (.ref n) S from rfl]
       dsimp only
       rw[Br,e3]
       rfl
      unfold Aj1
      rw[Br,e2]
      show Arx [.ref n,.ref S.length] _=_
      have g1:=a0.app [.lst ((ks.drop 1).map W.str)]
      unfold AtL at g1
      unfold Arx
      dsimp only
      rw[g1,List.getElem?_append_right (Nat.le_refl _),Nat.sub_self]
      rfl
     .unfold AtL
      rw[List.getElem?_append_right (Nat.le_refl _),Nat.sub_self]
      rfl) (fun j=>zip_get _ _ j) (by rw[List.length_zip,List.length_map];omega) Abo (fun p _=>⟨Pu.pure,fun _=>Ao (Af rfl) (Af rfl) Anx⟩) ⟨none,none,rfl⟩ (by rw[List.length_zip];omega)
   rw[List.filter_eq_self.mpr (fun _ _=>rfl)] at h
   rw[List.map_map]
   exact h
  .unfold Pq
   rw[List.all_map]
   rfl
end
section
variable {P:SP} {ns:List Int}
theorem Pr {δ:De} {f:De->M W} {l h:De->M (Option Int)} {x w:W} {lo hi:Option Int} (h1:Pu P (f δ) x) (h2:Pu P (l δ) lo) (h3:Pu P (h δ) hi) (h4:Pu P (slW ns x lo hi) w):Pu P (slF ns f l h δ) w:=h1.bind (h2.bind (h3.bind h4))
theorem Hz {δ:De} {f:De->M W} {i:Int} (h:Pu P (f δ) (.int i)):Pu P (Fx f δ) (some i):=h.bind Pu.pure
theorem Gv {δ:De}:Pu P (Ed δ) none:=Pu.pure
theorem Rw {k:Str} (h:isKey k=true):k.length≤big:=by
 unfold isKey at h
 simp only[Bool.and_eq_true,decide_eq_true_eq] at h
 exact Nat.le_trans h.2.2 (by decide)
theorem Axz {k:Str} (h:isKey k=true):Pu P (Lq ns [.str k]) (.bl true):=(Aob k (Rw h)).cast (by rw[h])
theorem Bbd {ks:List Str} (hl:ks.length≤big) (hk:∀k∈ks,isKey k=true):Pu P (Dr ns [.tup (ks.map W.str)]) (.bl (Pq ks)):=by
 apply Bq (ws:=[.tup (ks.map W.str)]) rfl
 apply Ca
 .apply Dk
  .apply Ef
   apply Aj
   refine Ny (bs:=ks.map fun _=>true) ?_
   have h:=Fl (P:=P) (xs:=ks) (φ:=W.str) (ψ:=fun _=>W.bl true) (t:=fun _=>pure true) (e:=Ah (Lq ns) (Aa (Ac 0) nilF)) (cs:=[]) (cap:=[]) (δ:=Bp 1 [.tup (ks.map W.str)]) (src:=Eh ns (Ac 0)) (Ey (Af rfl)) rfl hl (fun k hk'=>⟨Pu.pure,Ai (Ab (Af rfl) Ag) (Axz (hk k hk'))⟩)
   rw[List.map_map]
   exact h
  .simp
  .exact Av
 .apply Bm
  apply Bf
  refine Pu.cast (Ny (bs:=(ks.zip (ks.drop 1)).map fun p=>Je p.1 p.2) ?_) ?_
  .have e0:Aj0 (ks.map W.str) ((ks.map W.str).drop 1)=(ks.zip (ks.drop 1)).map fun p=>W.tup [.str p.1,.str p.2]:=by
    unfold Aj0 List.zip
    rw[←List.map_drop,List.map_zipWith,List.zipWith_map]
   have h:=Vt (P:=P) (xs:=ks.zip (ks.drop 1)) (φ:=fun p=>W.tup [.str p.1,.str p.2]) (ψ:=fun p=>W.bl (Je p.1 p.2)) (τ:=fun _=>true) (s:=Q5 [0,1]) (t:=fun _=>pure true) (e:=Bc .Lt (Ac 0) (Ac 1)) (k:=2) (cap:=[]) (δ:=Bp 1 [.tup (ks.map W.str)]) (src:=Aj1 (Aa (Ac 0) (Aa (slF ns (Ac 0) (Fx (kF (.int 1))) Ed) nilF)))
    (by
     rw[←e0,←Bbb]
     exact Pu.bind (Ab (Af rfl) (Ab (Pr (Af rfl) (Hz Ae) Gv Pu.pure) Ag)) Pu.pure) Abo (fun p _=>⟨Pu.pure,fun _=>Ao (Af rfl) (Af rfl) Anx⟩) ⟨none,none,rfl⟩ (by rw[List.length_zip];omega)
   rw[List.filter_eq_self.mpr (fun _ _=>rfl)] at h
   rw[List.map_map]
   exact h
  .unfold Pq
   rw[List.all_map]
   rfl
end
section
variable {P:SP} {ns:List Int}
theorem keysAt {ks:List Str} (hl:ks.length≤big) (hk:∀k∈ks,isKey k=true) (n:Nat) (S:Store) (h:S[n]?=some (.lst (ks.map W.str))):∃G,Dr ns [.ref n] S=.ok (.bl (Pq ks)) (S ++ G):=
 Bbc (P:=SP.any.at n (ks.map W.str)) (fun _ h=>h.2) hl hk S ⟨trivial,h⟩
def rowsOk (rs:List (Str×Cl)):Prop:=rs.length≤63∧(∀r∈rs,isKey r.1=true∧r.2.ok=true)∧Pq (rs.map (·.1))=true
theorem Asy {rs:List (Str×Cl)} (h:rowsOk rs):Pu P (Ql ns [.tup (rs.map Km)]) (.bl true):=by
 obtain⟨hl,hr,hk⟩:=h
 have hb:rs.length≤big:=Nat.le_trans hl (by decide)
 apply Bq (ws:=[.tup (rs.map Km)]) rfl
 apply Ca
 .apply Dk
  .exact Gy (Ef (Aj (Ai (Ab (Af rfl) (Ab Ae Ag)) Vx))) (Aj (Ao (Ai (Ab (Af rfl) Ag) Es) Ae Ln))
  .simp;omega
  .exact Av
 apply Ca
 .apply Dk
  .apply Ef
   apply Aj
   refine Ny (bs:=rs.map fun _=>true) ?_
   have h:=Fl (P:=P) (xs:=rs) (φ:=Km) (ψ:=fun _=>W.bl true) (t:=fun _=>pure true) (e:=Gx (Ah (G7 ns) (Aa (Ac 0) (Aa (kF (.int 2)) nilF))) (Ah (O3 ns) (Aa (ixF ns (Ac 0) (kF (.int 1))) nilF))) (cs:=[]) (cap:=[]) (δ:=Bp 1 [.tup (rs.map Km)]) (src:=Eh ns (Ac 0)) (Ey (Af rfl)) rfl hb
    (fun r hr'=>⟨Pu.pure,Cj (Ai (Ab (Af rfl) (Ab Ae Ag)) (Aev [.str r.1,r.2.w] 2)) (Ai (Ab (Aw (Af rfl) Ae (Aq rfl)) Ag) (Asx r.2 (hr r hr').2))⟩)
   rw[List.map_map]
   exact h
  .simp
  .exact Av
 apply Bm
 apply Bf
 refine Pu.cast (Abn (ws:=(rs.map (·.1)).map W.str) ?_ (keysAt (by rw[List.length_map];exact hb) (fun k hk'=>by
  obtain⟨r,hr',rfl⟩:=List.mem_map.mp hk'
  exact(hr r hr').1))) (by rw[hk])
 have h:=Fl (P:=P) (xs:=rs) (φ:=Km) (ψ:=fun r=>W.str r.1) (t:=fun _=>pure true) (e:=ixF ns (Ac 0) (kF (.int 0))) (cs:=[]) (cap:=[]) (δ:=Bp 1 [.tup (rs.map Km)]) (src:=Eh ns (Ac 0)) (Ey (Af rfl)) rfl hb (fun r _=>⟨Pu.pure,Aw (Af rfl) Ae (Aq rfl)⟩)
 rw[List.map_map]
 exact h
theorem Aoc {ks:List Str} (hl:ks.length≤63) (hk:∀k∈ks,isKey k=true) (hr:Pq ks=true):Pu P (Qn ns [.tup (ks.map W.str)]) (.bl true):=by
 apply Bq (ws:=[.tup (ks.map W.str)]) rfl
 apply Bm
 apply Bf
 refine Cj (Ai (Ab (Af rfl) (Ab Ae Ag)) Vx) (Cj ((Ao (Ai (Ab (Af rfl) Ag) Es) Ae Lk).cast (by simp;omega)) ?_)
 exact(Ai (Ab (Af rfl) Ag) (Bbd (Nat.le_trans hl (by decide)) hk)).cast (by rw[hr])
theorem Asz {ps:List Int} {m:Int} (hm:(ps.length:Int)=m) (hl:ps.length≤big) (hp:∀p∈ps,Eu p 1=true):Pu P (Qp ns [.tup (ps.map W.int),.int m]) (.bl true):=by
 apply Bq (ws:=[.tup (ps.map W.int),.int m]) rfl
 apply Bm
 apply Bf
 refine Cj ((Ai (Ab (Af rfl) (Ab (Af rfl) Ag)) (Aev (ps.map W.int) m)).cast (by simp[hm])) ?_
 refine Pu.cast (Ny (bs:=ps.map fun _=>true) ?_) (by simp)
 have h:=Fl (P:=P) (xs:=ps) (φ:=W.int) (ψ:=fun _=>W.bl true) (t:=fun _=>pure true) (e:=Ah (Dv ns) (Aa (Ac 0) (Aa (kF (.int 1)) nilF))) (cs:=[]) (cap:=[]) (δ:=Bp 2 [.tup (ps.map W.int),.int m]) (src:=Eh ns (Ac 0)) (Ey (Af rfl)) rfl hl
  (fun p hp'=>⟨Pu.pure,(Ai (Ab (Af rfl) (Ab Ae Ag)) (Agy p 1)).cast (by rw[hp p hp'])⟩)
 rw[List.map_map]
 exact h
end
def Pg.ok:Pg->Prop
 |.head a b c d=>Eu a 0=true∧Eu b 0=true∧Eu c 0=true∧Eu d 0=true
 |.leaf rs=>rowsOk rs
 |.fork ks ps=>(ks.length≤63∧(∀k∈ks,isKey k=true)∧Pq ks=true)∧ps.length=ks.length+1∧∀p∈ps,Eu p 1=true
 |.rest t n=>M2.Ea t=true∧1≤t.length∧t.length≤400∧Eu n 0=true
 |.free n=>Eu n 0=true
def Pg.word:Pg->Str
 |.head ..=>"head"
 |.leaf ..=>"leaf"
 |.fork ..=>"fork"
 |.rest ..=>"rest"
 |.free ..=>"free"
section
variable {P:SP} {ns:List Int}
theorem Ax0 {n:Int} (h:Eu n 0=true):Pu P ((fun ws=>Dv ns (ws ++ [.int 0])) [.int n]) (.bl true):=(Agy n 0).cast (by rw[h])
theorem Aid {p:Pg} (h:p.ok):Pu P (O4 ns [p.w]) (.bl true):=by
 cases p with
 |head a b c d=>
  obtain⟨h1,h2,h3,h4⟩:=h
  apply Bq (ws:=[Pg.w (.head a b c d)]) rfl
  apply Ca
  .exact Bh (Ai (Ab (Af rfl) Ag) (M4 _ _))
  apply Bm
  apply Nu
  .exact Aj (Ao (Af rfl) Ae (Ay (by decide +kernel) (by decide +kernel)))
  .decide +kernel
  .apply Bm
   apply Bf
   refine Cj ((Ao (Ai (Ab (Af rfl) Ag) Es) Ae J5).cast rfl) ?_
   refine Pu.cast (Ny (bs:=[a,b,c,d].map fun _=>true) ?_) rfl
   have h:=Fl (P:=P) (xs:=[a,b,c,d]) (φ:=W.int) (ψ:=fun _=>W.bl true) (t:=fun _=>pure true) (e:=Ah (fun ws=>Dv ns (ws ++ [(.int 0)])) (Aa (Ac 0) nilF)) (cs:=[]) (cap:=[]) (δ:=(Bp 2 [Pg.w (.head a b c d)]).set 1 (some (.str "head"))) (src:=Eh ns (slF ns (Ac 0) (Fx (kF (.int 1))) Ed)) (Ey (Pr (Af rfl) (Hz Ae) Gv Pu.pure)) rfl (show 4≤big by decide)
    (fun n hn=>⟨Pu.pure,Ai (Ab (Af rfl) Ag) (Ax0 (by
     simp only[List.mem_cons,List.not_mem_nil,or_false] at hn
     rcases hn with rfl|rfl|rfl|rfl <;> assumption))⟩)
   exact h
 |leaf rs=>
  apply Bq (ws:=[Pg.w (.leaf rs)]) rfl
  apply Ca
  .exact Bh (Ai (Ab (Af rfl) Ag) (M4 _ _))
  apply Ca
  .exact Dk (Aj (Ao (Af rfl) Ae (Ay (by decide +kernel) (by decide +kernel)))) (by decide +kernel) Av
  apply Bm
  apply Nu
  .exact Aj (Ao (Af rfl) Ae (Ay (by decide +kernel) (by decide +kernel)))
  .decide +kernel
  .apply Bm
   apply Bf
   exact Cj ((Ao (Ai (Ab (Af rfl) Ag) Es) Ae J5).cast rfl) (Ai (Ab (Aw (Af rfl) Ae (Aq rfl)) Ag) (Asy h))
 |fork ks ps=>
  obtain⟨⟨h1,h2,h3⟩,h4,h5⟩:=h
  apply Bq (ws:=[Pg.w (.fork ks ps)]) rfl
  apply Ca
  .exact Bh (Ai (Ab (Af rfl) Ag) (M4 _ _))
  apply Ca
  .exact Dk (Aj (Ao (Af rfl) Ae (Ay (by decide +kernel) (by decide +kernel)))) (by decide +kernel) Av
  apply Ca
  .exact Dk (Aj (Ao (Af rfl) Ae (Ay (by decide +kernel) (by decide +kernel)))) (by decide +kernel) Av
  apply Bm
  apply Nu
  .exact Aj (Ao (Af rfl) Ae (Ay (by decide +kernel) (by decide +kernel)))
  .decide +kernel
  .apply Bm
   apply Bf
   exact Cj ((Ao (Ai (Ab (Af rfl) Ag) Es) Ae J5).cast rfl) (Cj (Ai (Ab (Aw (Af rfl) Ae (Aq rfl)) Ag) (Aoc h1 h2 h3))
    (Ai (Ab (Aw (Af rfl) Ae (Aq rfl)) (Ab (Al (Ai (Ab (Aw (Af rfl) Ae (Aq rfl)) Ag) Es) Ae Cm) Ag)) (Asz (by rw[List.length_map,h4];rfl) (by rw[h4];exact Nat.le_trans (Nat.succ_le_succ h1) (by decide)) h5)))
 |rest t n=>
  obtain⟨h1,h2,h3,h4⟩:=h
  apply Bq (ws:=[Pg.w (.rest t n)]) rfl
  apply Ca
  .exact Bh (Ai (Ab (Af rfl) Ag) (M4 _ _))
  apply Ca
  .exact Dk (Aj (Ao (Af rfl) Ae (Ay (by decide +kernel) (by decide +kernel)))) (by decide +kernel) Av
  apply Ca
  .exact Dk (Aj (Ao (Af rfl) Ae (Ay (by decide +kernel) (by decide +kernel)))) (by decide +kernel) Av
  apply Ca
  .exact Dk (Aj (Ao (Af rfl) Ae (Ay (by decide +kernel) (by decide +kernel)))) (by decide +kernel) Av
  apply Bm
  apply Nu
  .exact Aj (Ao (Af rfl) Ae (Ay (by decide +kernel) (by decide +kernel)))
  .decide +kernel
  .apply Bm
   apply Bf
   exact Cj ((Ao (Ai (Ab (Af rfl) Ag) Es) Ae J5).cast rfl) (Cj ((Ai (Ab (Aw (Af rfl) Ae (Aq rfl)) (Ab Ae (Ab Ae Ag))) (Aad t 1 400 (Nat.le_trans h3 (by decide)))).cast (by
    rw[h1,decide_eq_true (by omega),decide_eq_true (by omega)];rfl)) (Ai (Ab (Aw (Af rfl) Ae (Aq rfl)) Ag) (Ax0 h4)))
 |free n=>
  apply Bq (ws:=[Pg.w (.free n)]) rfl
  apply Ca
  .exact Bh (Ai (Ab (Af rfl) Ag) (M4 _ _))
  apply Ca
  .exact Dk (Aj (Ao (Af rfl) Ae (Ay (by decide +kernel) (by decide +kernel)))) (by decide +kernel) Av
  apply Ca
  .exact Dk (Aj (Ao (Af rfl) Ae (Ay (by decide +kernel) (by decide +kernel)))) (by decide +kernel) Av
  apply Ca
  .exact Dk (Aj (Ao (Af rfl) Ae (Ay (by decide +kernel) (by decide +kernel)))) (by decide +kernel) Av
  apply Ca
  .exact Dk (Aj (Ao (Af rfl) Ae (Ay (by decide +kernel) (by decide +kernel)))) (by decide +kernel) Av
  apply Bm
  apply Nu
  .exact Aj (Ao (Af rfl) Ae (Ay (by decide +kernel) (by decide +kernel)))
  .decide +kernel
  .apply Bm
   apply Bf
   exact Cj ((Ao (Ai (Ab (Af rfl) Ag) Es) Ae J5).cast rfl) (Ai (Ab (Aw (Af rfl) Ae (Aq rfl)) Ag) (Ax0 h))
end
abbrev jn (ys:List Str):Str:=Txt.join "" ys
def Ia (ps:List Int):Str:=jn (ps.map (M1.Cw 2))
def Gz (k:Str):Str:=M1.Cw 1 k.length ++ k
def Cl.t:Cl->Str
 |.inn t=>"i" ++ M1.Cw 1 t.length ++ t
 |.out n p=>"o" ++ Ia [n,p]
def Hu (r:Str×Cl):Str:=Gz r.1 ++ r.2.t
def Pg.body:Pg->Str
 |.head a b c d=>Ia [a,b,c,d]
 |.leaf rs=>M1.Cw 1 rs.length ++ jn (rs.map Hu)
 |.fork ks ps=>M1.Cw 1 ks.length ++ jn (ks.map Gz) ++ Ia ps
 |.rest t n=>Ia [n] ++ t
 |.free n=>Ia [n]
theorem len_app (x y:Str):(x ++ y).length=x.length+y.length:=by
 show (x.cps ++ y.cps).size=_
 rw[Array.size_append];rfl
theorem Bj (k:Nat) (n:Int):(M1.Cw k n).length=k:=M1.Aj8 k n
theorem Aod {ys:List Str} {c:Nat} (h:∀y∈ys,y.length≤c):(ys.map (·.length)).sum≤ys.length * c:=by
 induction ys with
 |nil=>simp
 |cons y ys ih=>
  have h1:=h y List.mem_cons_self
  have h2:=ih fun z hz=>h z (List.mem_cons_of_mem _ hz)
  rw[List.map_cons,List.sum_cons,List.length_cons,Nat.succ_mul]
  omega
theorem X6:jn []=⟨#[]⟩:=rfl
theorem Gn (x:Str):x ++ (⟨#[]⟩:Str)=x:=by
 show (⟨x.cps ++ #[]⟩:Str)=x
 rw[Array.append_empty]
theorem Jx (y:Str) (ys:List Str):jn (y::ys)=y ++ jn ys:=by
 have e:∀l,jn l=Str.join "" l:=fun l=>StrLaws.glued_eq_join "" l
 rw[e,e]
 cases ys with
 |nil=>exact(Gn y).symm
 |cons z zs=>
  show y ++ "" ++ Str.join "" (z::zs)=y ++ Str.join "" (z::zs)
  rw[show y ++ ("":Str)=y from Gn y]
theorem Ub:∀ys:List Str,(jn ys).length=(ys.map (·.length)).sum
 |[]=>rfl
 |y::ys=>by rw[Jx,len_app,Ub ys,List.map_cons,List.sum_cons]
section
variable {P:SP} {ns:List Int}
theorem Rx {δ:De} {f:De->M W} {ys:List Str} {c:Nat} (h:PuL P (f δ) (ys.map W.str)) (hc:∀y∈ys,y.length≤c) (hl:ys.length * c≤big):Pu P (Ji .str J2 (kF (.str "")) (Aa f nilF) δ) (.str (jn ys)):=
 Asj h (by
  have:=Aod hc
  show (ys.map (·.length)).sum+ys.length * 0≤big
  omega)
theorem Rz {ps:List Int} (hp:∀p∈ps,0≤p∧p < 4096) (hl:ps.length≤1000):Pu P (Et ns [.tup (ps.map W.int)]) (.str (Ia ps)):=by
 apply Bq (ws:=[.tup (ps.map W.int)]) rfl
 apply Bm
 apply Bf
 refine Rx (c:=2) ?_ (fun y hy=>?_) (by rw[List.length_map];exact Nat.le_trans (Nat.mul_le_mul_right 2 hl) (by decide))
 .have h:=Fl (P:=P) (xs:=ps) (φ:=W.int) (ψ:=fun p=>W.str (M1.Cw 2 p)) (t:=fun _=>pure true) (e:=Ah (Fo ns) (Aa (Ac 0) (Aa (kF (.int 2)) nilF))) (cs:=[]) (cap:=[]) (δ:=Bp 1 [.tup (ps.map W.int)]) (src:=Eh ns (Ac 0)) (Ey (Af rfl)) rfl (Nat.le_trans hl (by decide))
   (fun p hp'=>⟨Pu.pure,Ai (Ab (Af rfl) (Ab Ae Ag)) (Acb (hp p hp').1 (hp p hp').2)⟩)
  rw[List.map_map]
  exact h
 .obtain⟨p,_,rfl⟩:=List.mem_map.mp hy
  exact Nat.le_of_eq (Bj 2 p)
theorem Gp {n k:Int} (h:Eu n k=true) (hk:0≤k):0≤n∧n < 4096:=by
 unfold Eu at h
 simp only[Bool.and_eq_true,decide_eq_true_eq] at h
 omega
theorem As0 {n:Nat} (h:n≤63):Pu P (Fo ns [.int (n:Int),.int 1]) (.str (M1.Cw 1 n)):=Asv (by omega) (by omega)
theorem Aie {k:Str} (h:isKey k=true):Pu P (Ka ns [.str k]) (.str (Gz k)):=by
 have hk:=Rw h
 unfold isKey at h
 simp only[Bool.and_eq_true,decide_eq_true_eq] at h
 apply Bq (ws:=[.str k]) rfl
 apply Bm
 apply Bf
 exact Al (Ai (Ab (Ai (Ab (Af rfl) Ag) (len_str hk)) (Ab Ae Ag)) (As0 (by omega))) (Af rfl) (Bs (by rw[Bj];exact Nat.le_trans (Nat.add_le_add_left h.2.2 1) (by decide)))
theorem Aoe {c:Cl} (h:c.ok=true):Pu P (N7 ns [c.w]) (.str c.t):=by
 cases c with
 |inn t=>
  unfold Cl.ok at h
  rw[Bool.and_eq_true,decide_eq_true_eq] at h
  have ht:t.length≤big:=Nat.le_trans h.2 (by decide)
  apply Bq (ws:=[Cl.w (.inn t)]) rfl
  apply Bm
  apply Nu
  .exact Aj (Ao (Aw (Af rfl) Ae (Aq rfl)) Ae (Ay (by decide +kernel) (by decide +kernel)))
  .decide +kernel
  .apply Bm
   apply Bf
   exact Al (Al Ae (Ai (Ab (Ai (Ab (Aw (Af rfl) Ae (Aq rfl)) Ag) (len_str ht)) (Ab Ae Ag)) (As0 h.2)) (Bs (by rw[Bj];decide))) (Aw (Af rfl) Ae (Aq rfl)) (Bs (by
    rw[len_app,Bj]
    exact Nat.le_trans (Nat.add_le_add_left h.2 _) (by decide)))
 |out n p=>
  unfold Cl.ok at h
  rw[Bool.and_eq_true,Bool.and_eq_true,decide_eq_true_eq,decide_eq_true_eq] at h
  apply Bq (ws:=[Cl.w (.out n p)]) rfl
  apply Ca
  .exact Dk (Aj (Ao (Aw (Af rfl) Ae (Aq rfl)) Ae (Ay (by decide +kernel) (by decide +kernel)))) (by decide +kernel) Av
  .apply Bm
   apply Bf
   exact Al Ae (Ai (Ab (Pr (Af rfl) (Hz Ae) Gv Pu.pure) Ag) (Rz (ps:=[n,p]) (fun q hq=>by
    simp only[List.mem_cons,List.not_mem_nil,or_false] at hq
    rcases hq with rfl|rfl
    .omega
    .exact Gp h.2 (by decide)) (show 2≤1000 by decide))) (Bs (by
     unfold Ia
     rw[Ub]
     show 1+((M1.Cw 2 n).length+((M1.Cw 2 p).length+0))≤big
     rw[Bj,Bj]
     decide))
end
section
variable {P:SP} {ns:List Int}
theorem Ke {k:Str} (h:isKey k=true):(Gz k).length≤13:=by
 unfold isKey at h
 simp only[Bool.and_eq_true,decide_eq_true_eq] at h
 unfold Gz
 rw[len_app,Bj]
 omega
theorem Aae {c:Cl} (h:c.ok=true):c.t.length≤65:=by
 cases c with
 |inn t=>
  unfold Cl.ok at h
  rw[Bool.and_eq_true,decide_eq_true_eq] at h
  unfold Cl.t
  rw[len_app,len_app,Bj]
  show 1+1+t.length≤65
  omega
 |out n p=>
  unfold Cl.t Ia
  rw[len_app,Ub]
  show 1+((M1.Cw 2 n).length+((M1.Cw 2 p).length+0))≤65
  rw[Bj,Bj]
  decide
theorem X7 {r:Str×Cl} (h1:isKey r.1=true) (h2:r.2.ok=true):(Hu r).length≤78:=by
 unfold Hu
 rw[len_app]
 have:=Ke h1
 have:=Aae h2
 omega
theorem As1 {r:Str×Cl} (h1:isKey r.1=true) (h2:r.2.ok=true):Pu P (Ms ns [Km r]) (.str (Hu r)):=by
 apply Bq (ws:=[Km r]) rfl
 apply Bm
 apply Bf
 exact Al (Ai (Ab (Aw (Af rfl) Ae (Aq rfl)) Ag) (Aie h1)) (Ai (Ab (Aw (Af rfl) Ae (Aq rfl)) Ag) (Aoe h2)) (Bs (by
  have:=Ke h1
  have:=Aae h2
  exact Nat.le_trans (Nat.add_le_add ‹_› ‹_›) (by decide)))
theorem Aaf {ys:List Str} {c n:Nat} (h:∀y∈ys,y.length≤c) (hn:ys.length≤n):(jn ys).length≤n * c:=by
 rw[Ub]
 exact Nat.le_trans (Aod h) (Nat.mul_le_mul_right c hn)
theorem Fq (ps:List Int):(Ia ps).length=2 * ps.length:=by
 unfold Ia
 rw[Ub,List.map_map]
 induction ps with
 |nil=>rfl
 |cons p ps ih=>
  rw[List.map_cons,List.sum_cons,ih,List.length_cons]
  show (M1.Cw 2 p).length+_=_
  rw[Bj]
  omega
theorem As2 {p:Pg} (h:p.ok):Pu P (Oa ns [p.w]) (.str p.body):=by
 cases p with
 |head a b c d=>
  obtain⟨h1,h2,h3,h4⟩:=h
  apply Bq (ws:=[Pg.w (.head a b c d)]) rfl
  apply Ca
  .exact Dk (Aj (Ao (Aw (Af rfl) Ae (Aq rfl)) Ae (Ay (by decide +kernel) (by decide +kernel)))) (by decide +kernel) Av
  apply Ca
  .exact Dk (Aj (Ao (Aw (Af rfl) Ae (Aq rfl)) Ae (Ay (by decide +kernel) (by decide +kernel)))) (by decide +kernel) Av
  apply Ca
  .exact Dk (Aj (Ao (Aw (Af rfl) Ae (Aq rfl)) Ae (Ay (by decide +kernel) (by decide +kernel)))) (by decide +kernel) Av
  apply Bm
  apply Bf
  exact Ai (Ab (Pr (Af rfl) (Hz Ae) Gv Pu.pure) Ag) (Rz (ps:=[a,b,c,d]) (fun q hq=>by
   simp only[List.mem_cons,List.not_mem_nil,or_false] at hq
   rcases hq with rfl|rfl|rfl|rfl <;> exact Gp ‹_› (by decide)) (show 4≤1000 by decide))
 |leaf rs=>
  obtain⟨h1,h2,h3⟩:=h
  apply Bq (ws:=[Pg.w (.leaf rs)]) rfl
  apply Bm
  apply Nu
  .exact Aj (Ao (Aw (Af rfl) Ae (Aq rfl)) Ae (Ay (by decide +kernel) (by decide +kernel)))
  .decide +kernel
  .apply Bm
   apply Bf
   have hc:∀y∈rs.map Hu,y.length≤78:=fun y hy=>by
    obtain⟨r,hr,rfl⟩:=List.mem_map.mp hy
    exact X7 (h2 r hr).1 (h2 r hr).2
   refine Al (y:=.str (jn (rs.map Hu))) (Ai (Ab ((Ai (Ab (Aw (Af rfl) Ae (Aq rfl)) Ag) Es).cast (by rw[List.length_map])) (Ab Ae Ag)) (As0 h1)) ?_ (Bs (by
    rw[Bj]
    exact Nat.le_trans (Nat.add_le_add_left (Aaf hc (by rw[List.length_map];exact h1)) 1) (by decide)))
   refine Rx (c:=78) ?_ hc (by rw[List.length_map];exact Nat.le_trans (Nat.mul_le_mul_right 78 h1) (by decide))
   have h:=Fl (P:=P) (xs:=rs) (φ:=Km) (ψ:=fun r=>W.str (Hu r)) (t:=fun _=>pure true) (e:=Ah (Ms ns) (Aa (Ac 0) nilF)) (cs:=[]) (cap:=[]) (δ:=Bp 2 [Pg.w (.leaf rs)]) (src:=Eh ns (ixF ns (Ac 0) (kF (.int 1)))) (Ey (Aw (Af rfl) Ae (Aq rfl))) rfl (Nat.le_trans h1 (by decide))
    (fun r hr=>⟨Pu.pure,Ai (Ab (Af rfl) Ag) (As1 (h2 r hr).1 (h2 r hr).2)⟩)
   rw[List.map_map]
   exact h
 |fork ks ps=>
  obtain⟨⟨h1,h2,h3⟩,h4,h5⟩:=h
  have hc:∀y∈ks.map Gz,y.length≤13:=fun y hy=>by
   obtain⟨k,hk,rfl⟩:=List.mem_map.mp hy
   exact Ke (h2 k hk)
  have hj:(jn (ks.map Gz)).length≤63 * 13:=Aaf hc (by rw[List.length_map];exact h1)
  apply Bq (ws:=[Pg.w (.fork ks ps)]) rfl
  apply Ca
  .exact Dk (Aj (Ao (Aw (Af rfl) Ae (Aq rfl)) Ae (Ay (by decide +kernel) (by decide +kernel)))) (by decide +kernel) Av
  apply Bm
  apply Nu
  .exact Aj (Ao (Aw (Af rfl) Ae (Aq rfl)) Ae (Ay (by decide +kernel) (by decide +kernel)))
  .decide +kernel
  .refine Ca (Bh (w:=.str (jn (ks.map Gz))) ?_) ?_
   .refine Rx (c:=13) ?_ hc (by rw[List.length_map];exact Nat.le_trans (Nat.mul_le_mul_right 13 h1) (by decide))
    have h:=Fl (P:=P) (xs:=ks) (φ:=W.str) (ψ:=fun k=>W.str (Gz k)) (t:=fun _=>pure true) (e:=Ah (Ka ns) (Aa (Ac 0) nilF)) (cs:=[]) (cap:=[]) (δ:=Bp 2 [Pg.w (.fork ks ps)]) (src:=Eh ns (ixF ns (Ac 0) (kF (.int 1)))) (Ey (Aw (Af rfl) Ae (Aq rfl))) rfl (Nat.le_trans h1 (by decide))
     (fun k hk=>⟨Pu.pure,Ai (Ab (Af rfl) Ag) (Aie (h2 k hk))⟩)
    rw[List.map_map]
    exact h
   .apply Bm
    apply Bf
    refine Al (Al (Ai (Ab ((Ai (Ab (Aw (Af rfl) Ae (Aq rfl)) Ag) Es).cast (by rw[List.length_map])) (Ab Ae Ag)) (As0 h1)) (Af rfl) (Bs ?_)) (Ai (Ab (Aw (Af rfl) Ae (Aq rfl)) Ag) (Rz (fun q hq=>Gp (h5 q hq) (by decide)) (by omega))) (Bs ?_)
    .rw[Bj]
     exact Nat.le_trans (Nat.add_le_add_left hj 1) (by decide)
    .rw[len_app,Bj,Fq]
     have:1+(jn (ks.map Gz)).length+2 * ps.length≤1+63 * 13+128:=by omega
     exact Nat.le_trans this (by decide)
 |rest t n=>
  obtain⟨h1,h2,h3,h4⟩:=h
  apply Bq (ws:=[Pg.w (.rest t n)]) rfl
  apply Ca
  .exact Dk (Aj (Ao (Aw (Af rfl) Ae (Aq rfl)) Ae (Ay (by decide +kernel) (by decide +kernel)))) (by decide +kernel) Av
  apply Ca
  .exact Dk (Aj (Ao (Aw (Af rfl) Ae (Aq rfl)) Ae (Ay (by decide +kernel) (by decide +kernel)))) (by decide +kernel) Av
  apply Bm
  apply Nu
  .exact Aj (Ao (Aw (Af rfl) Ae (Aq rfl)) Ae (Ay (by decide +kernel) (by decide +kernel)))
  .decide +kernel
  .apply Bm
   apply Bf
   exact Al (Ai (Ab (Pr (Af rfl) (Hz Ae) Gv Pu.pure) Ag) (Rz (ps:=[n]) (fun q hq=>by
    rw[List.mem_singleton] at hq
    subst hq
    exact Gp h4 (by decide)) (show 1≤1000 by decide))) (Aw (Af rfl) Ae (Aq rfl)) (Bs (by
     rw[Fq]
     exact Nat.le_trans (Nat.add_le_add_left h3 _) (show 2 * 1+400≤big by decide)))
 |free n=>
  apply Bq (ws:=[Pg.w (.free n)]) rfl
  apply Ca
  .exact Dk (Aj (Ao (Aw (Af rfl) Ae (Aq rfl)) Ae (Ay (by decide +kernel) (by decide +kernel)))) (by decide +kernel) Av
  apply Ca
  .exact Dk (Aj (Ao (Aw (Af rfl) Ae (Aq rfl)) Ae (Ay (by decide +kernel) (by decide +kernel)))) (by decide +kernel) Av
  apply Ca
  .exact Dk (Aj (Ao (Aw (Af rfl) Ae (Aq rfl)) Ae (Ay (by decide +kernel) (by decide +kernel)))) (by decide +kernel) Av
  apply Bm
  apply Bf
  exact Ai (Ab (Pr (Af rfl) (Hz Ae) Gv Pu.pure) Ag) (Rz (ps:=[n]) (fun q hq=>by
   rw[List.mem_singleton] at hq
   subst hq
   exact Gp h (by decide)) (show 1≤1000 by decide))
theorem Lz {p:Pg} (h:p.ok):Pu P (Jy ns [p.w]) (.str p.body):=by
 apply Bq (ws:=[p.w]) rfl
 apply Ca
 .exact Dk (Ef (Aj (Ai (Ab (Af rfl) Ag) (Aid h)))) rfl Av
 .exact Bm (Bf (Ai (Ab (Af rfl) Ag) (As2 h)))
end
section
variable {P:SP} {ns:List Int}
theorem O5 {k:Nat} (h:k≤1000001):small (k:Int)=true:=by
 unfold small
 have e:(2:Int) ^ 64=18446744073709551616:=by decide +kernel
 rw[e,Bool.and_eq_true,decide_eq_true_eq,decide_eq_true_eq]
 omega
theorem Aof {z:Str} (hz:z.length≤big) (ht:M2.Ea z=true):Pu P (Qi ns [.str z]) (.str (M2.check z)):=by
 have hsz:z.cps.toList.length=z.length:=Array.length_toList
 apply Bq (ws:=[.str z]) rfl
 apply Ca
 .exact Dk (Ef (Aj (Ai (Ab (Af rfl) Ag) (Ace z hz)))) (by rw[ht];rfl) Av
 refine Ca (Bh (w:=.int (M2.chk z.cps.toList)) ?_) ?_
 .refine Pu.cast (Any (is:=(List.range z.length).map fun(i:Nat)=>(((z.cps.getD i 0:Nat):Int) - 31) * ((i:Int)+1)) ?_) ?_
  .have h:=Vt (P:=P) (xs:=List.range z.length) (φ:=fun(i:Nat)=>W.tup [.int ((i:Int)+1),.str ⟨#[z.cps.getD i 0]⟩]) (ψ:=fun(i:Nat)=>W.int ((((z.cps.getD i 0:Nat):Int) - 31) * ((i:Int)+1))) (τ:=fun _=>true) (s:=Q5 [0,1]) (t:=fun _=>pure true) (e:=Ar .mul (Ar .sub (Ah Amk (Aa (Ac 1) nilF)) (kF (.int 31))) (Ac 0)) (k:=2) (cap:=[]) (δ:=Bp 2 [.str z]) (src:=Ahq (Ac 0))
    (Pu.bind (Af rfl) Pu.pure) Abo (fun i hi=>⟨Pu.pure,fun _=>Al (Al (Ai (Ab (Af rfl) Ag) Asw) Ae Gr) (Af rfl) (Gs (by
     have:i < z.length:=List.mem_range.mp hi
     have h2:small (((i+1:Nat):Nat):Int)=true:=O5 (by unfold big at hz;omega)
     rw[Bool.or_eq_true]
     exact .inr h2))⟩) ⟨none,none,rfl⟩ (by rw[List.length_range];exact hz)
   rw[List.filter_eq_self.mpr (fun _ _=>rfl)] at h
   rw[List.map_map]
   exact h
  .congr 1
   unfold M2.chk M2.Vg
   rw[hsz]
   congr 1
   refine List.map_congr_left fun i hi=>?_
   rw[show z.cps.toList.getD i 0=z.cps.getD i 0 from by rw[List.getD_eq_getElem?_getD,Array.getElem?_toList,Array.getD_eq_getD_getElem?]]
   rw[show (((z.cps.getD i 0:Nat):Int) - 32+1)=((z.cps.getD i 0:Nat):Int) - 31 by omega]
 .apply Bm
  apply Bf
  exact Ai (Ab (Al (Af rfl) Ae (Cp (by decide))) (Ab Ae Ag)) (Acb (by omega) (by omega))
end
theorem G4 (x y:Str):M2.Ea (x ++ y)=(M2.Ea x&&M2.Ea y):=by
 unfold M2.Ea
 show ((x.cps ++ y.cps).toList).all _=_
 rw[Array.toList_append,List.all_append]
theorem Bbe:∀v,v < 64->M2.okC (M1.sg v)=true:=by decide +kernel
theorem Agz (c:Nat):M2.Ea (M1.one c)=M2.okC c:=by
 unfold M2.Ea M1.one
 simp
theorem Uc (k:Nat) (n:Int):M2.Ea (M1.Cw k n)=true:=by
 induction k with
 |zero=>rfl
 |succ k ih=>
  show M2.Ea (M1.one _ ++ M1.Cw k n)=true
  rw[G4,ih,Agz,Bbe _ (by omega)]
  rfl
theorem Aew:∀{ys:List Str},(∀y∈ys,M2.Ea y=true)->M2.Ea (jn ys)=true
 |[],_=>rfl
 |y::ys,h=>by
  rw[Jx,G4,h y List.mem_cons_self,Aew fun z hz=>h z (List.mem_cons_of_mem _ hz)]
  rfl
theorem R0 (ps:List Int):M2.Ea (Ia ps)=true:=Aew fun y hy=>by
 obtain⟨p,_,rfl⟩:=List.mem_map.mp hy
 exact Uc 2 p
theorem Aog {k:Str} (h:isKey k=true):M2.Ea k=true:=by
 unfold isKey at h
 rw[Bool.and_eq_true] at h
 exact h.1
theorem Aoh {k:Str} (h:isKey k=true):M2.Ea (Gz k)=true:=by
 unfold Gz
 rw[G4,Uc,Aog h]
 rfl
theorem As3 {c:Cl} (h:c.ok=true):M2.Ea c.t=true:=by
 cases c with
 |inn t=>
  unfold Cl.ok at h
  rw[Bool.and_eq_true] at h
  unfold Cl.t
  rw[G4,G4,Uc,h.1]
  decide +kernel
 |out n p=>
  unfold Cl.t
  rw[G4,R0]
  decide +kernel
theorem As4 {p:Pg} (h:p.ok):M2.Ea p.body=true:=by
 cases p with
 |head a b c d=>exact R0 _
 |leaf rs=>
  unfold Pg.body
  rw[G4,Uc,Aew fun y hy=>by
   obtain⟨r,hr,rfl⟩:=List.mem_map.mp hy
   unfold Hu
   rw[G4,Aoh (h.2.1 r hr).1,As3 (h.2.1 r hr).2]
   rfl]
  rfl
 |fork ks ps=>
  unfold Pg.body
  rw[G4,G4,Uc,R0,Aew fun y hy=>by
   obtain⟨k,hk,rfl⟩:=List.mem_map.mp hy
   exact Aoh (h.1.2.1 k hk)]
  rfl
 |rest t n=>
  unfold Pg.body
  rw[G4,R0,h.1]
  rfl
 |free n=>exact R0 _
def Pg.letter:Pg->Str
 |.head ..=>"h"
 |.leaf ..=>"l"
 |.fork ..=>"f"
 |.rest ..=>"r"
 |.free ..=>"e"
def Pg.start (p:Pg):Str:=p.letter ++ M1.Cw 2 p.body.length ++ p.body
def Pg.unch (p:Pg) (size:Int):Str:=Txt.ljustF p.start (size - 2) 48
def Pg.text (p:Pg) (size:Int):Str:=p.unch size ++ M2.check (p.unch size)
theorem Kf (p:Pg):p.letter.length=1:=by cases p <;> rfl
theorem Ud (p:Pg):p.start.length=3+p.body.length:=by
 unfold Pg.start
 rw[len_app,len_app,Kf,Bj]
theorem As5 (p:Pg) (size:Int):∃n,(p.unch size).cps=p.start.cps ++ Array.replicate n 48:=by
 unfold Pg.unch Txt.ljustF
 split
 .exact⟨0,by simp⟩
 .refine⟨(size - 2).toNat - p.start.length,?_⟩
  show Array.replicate 0 48 ++ p.start.cps ++ Array.replicate ((size - 2).toNat - p.start.length) 48=_
  simp
section
variable {P:SP} {ns:List Int}
theorem Acg (p:Pg):∃ws,p.w=.tup (.str p.word::ws):=by cases p <;> exact⟨_,rfl⟩
theorem ix0 {w:W} {ws:List W}:atI (w::ws) 0=some w:=by
 unfold atI ixN
 rw[if_pos (by decide),if_pos (by rw[List.length_cons];omega)]
 rfl
theorem Akm (p:Pg):Pu P (mdW Fp (.str p.word)) (.str p.letter):=by
 have e:Fp.lookup p.word=some p.letter:=by
  cases p
  .exact(by decide +kernel:Fp.lookup ("head":Str)=some ("h":Str))
  .exact(by decide +kernel:Fp.lookup ("leaf":Str)=some ("l":Str))
  .exact(by decide +kernel:Fp.lookup ("fork":Str)=some ("f":Str))
  .exact(by decide +kernel:Fp.lookup ("rest":Str)=some ("r":Str))
  .exact(by decide +kernel:Fp.lookup ("free":Str)=some ("e":Str))
 unfold mdW
 simp only[e]
 exact Pu.pure
theorem Bbf {δ:De} {D:List (Str×Str)} {g:De->M W} {k w:W} (h1:Pu P (g δ) k) (h2:Pu P (mdW D k) w):Pu P (mdF D g δ) w:=h1.bind h2
theorem As6 {p:Pg} {size:Int} (hb:p.body.length≤195) (h1:64≤size) (h2:size≤200):Pu P (Iv ns [p.w,.str p.body,.int size]) (.str (p.unch size)):=by
 obtain⟨ws,ew⟩:=Acg p
 rw[ew]
 have hbb:p.body.length≤big:=Nat.le_trans hb (by decide)
 apply Bq (ws:=[.tup (.str p.word::ws),.str p.body,.int size]) rfl
 refine Ca (Bh (w:=.str p.start) ?_) ?_
 .refine Al (Al (Bbf (Aw (Af rfl) Ae (Aq ix0)) (Akm p)) (Ai (Ab (Ai (Ab (Af rfl) Ag) (len_str hbb)) (Ab Ae Ag)) (Acb (by omega) (by omega))) (Bs ?_)) (Af rfl) (Bs ?_)
  .rw[Kf,Bj];decide
  .rw[len_app,Kf,Bj]
   exact Nat.le_trans (Nat.add_le_add_left hb _) (by decide)
 .apply Bm
  apply Bf
  refine Acd (Af rfl) (Ab (Al (Af rfl) Ae Gr) (Ab Ae Ag)) (Kp ?_ Pu.pure)
  rw[Bool.and_eq_true]
  refine⟨?_,by decide +kernel⟩
  have e:∀k:Nat,k≤200->PadOk (k:Int)=true:=by decide +kernel
  have:=e (size - 2).toNat (by omega)
  rw[Int.toNat_of_nonneg (by omega)] at this
  exact this
theorem Akn (p:Pg):M2.Ea p.letter=true:=by
 cases p
 .exact(by decide +kernel:M2.Ea ("h":Str)=true)
 .exact(by decide +kernel:M2.Ea ("l":Str)=true)
 .exact(by decide +kernel:M2.Ea ("f":Str)=true)
 .exact(by decide +kernel:M2.Ea ("r":Str)=true)
 .exact(by decide +kernel:M2.Ea ("e":Str)=true)
theorem Aif {p:Pg} (h:p.ok) (size:Int):M2.Ea (p.unch size)=true:=by
 obtain⟨n,e⟩:=As5 p size
 unfold M2.Ea
 rw[e,Array.toList_append,List.all_append]
 have h1:M2.Ea p.start=true:=by
  unfold Pg.start
  rw[G4,G4,Uc,As4 h,Akn p]
  rfl
 unfold M2.Ea at h1
 rw[h1,Array.toList_replicate,Bool.true_and]
 rw[List.all_eq_true]
 intro c hc
 obtain⟨_,rfl⟩:=List.mem_replicate.mp hc
 decide
theorem Oq {p:Pg} {size:Int} (hb:(p.body.length:Int)≤size - 5):(p.unch size).length=(size - 2).toNat:=by
 unfold Pg.unch Txt.ljustF
 have:=Ud p
 split
 .omega
 .show (Array.replicate 0 48 ++ p.start.cps ++ Array.replicate ((size - 2).toNat - p.start.length) 48).size=_
  simp
  show p.start.length+_=_
  omega
theorem Vy (i:Int):Pu P (Lr ns [.int i]) (.bl (decide (64≤i)&&decide (i≤200))):=by
 apply Bq (ws:=[.int i]) rfl
 apply Bm
 apply Bf
 exact Cj (Ai (Ab (Af rfl) Ag) (Ja i)) (Nt Ae (Af rfl) Lk Ae Lk)
theorem Aig (i:Int):Pu P (Tp ns [.int i]) (.int (i - 5)):=by
 apply Bq (ws:=[.int i]) rfl
 apply Bm
 apply Bf
 exact Al (Af rfl) Ae Gr
theorem Ue (x:Str):(M2.check x).length=2:=Bj 2 _
theorem M5 {p:Pg} {size:Int} (h:p.ok) (h1:64≤size) (h2:size≤200) (hb:(p.body.length:Int)≤size - 5):Pu P (Dq ns [p.w,.int size]) (.str (p.text size)):=by
 have hbb:p.body.length≤195:=by omega
 have hu:(p.unch size).length≤big:=by rw[Oq hb];exact Nat.le_trans (show (size - 2).toNat≤200 by omega) (by decide)
 apply Bq (ws:=[p.w,.int size]) rfl
 refine Ca (Bh (Ai (Ab (Af rfl) Ag) (Lz h))) ?_
 apply Ca
 .exact Dk (Ef (Aj (Ai (Ab (Af rfl) Ag) (Vy size)))) (by rw[decide_eq_true h1,decide_eq_true h2];rfl) Av
 apply Ca
 .refine Dk (Aj (Ao (Ai (Ab (Af rfl) Ag) (len_str (Nat.le_trans hbb (by decide)))) (Ai (Ab (Af rfl) Ag) (Aig size)) Ln)) ?_ Av
  rw[decide_eq_false_iff_not]
  omega
 refine Ca (Bh (Ai (Ab (Af rfl) (Ab (Af rfl) (Ab (Af rfl) Ag))) (As6 hbb h1 h2))) ?_
 apply Bm
 apply Bf
 exact Al (Af rfl) (Ai (Ab (Af rfl) Ag) (Aof hu (Aif h size))) (Bs (by
  rw[Ue,Oq hb]
  exact Nat.le_trans (show (size - 2).toNat+2≤400 by omega) (by decide)))
theorem Aoi {p:Pg} {size:Int} (h:p.ok) (h1:64≤size) (h2:size≤200) (hb:size - 5 < (p.body.length:Int)) (hl:p.body.length≤big):PuX P (Dq ns [p.w,.int size]) (4,.non):=by
 apply Ah3 (ws:=[p.w,.int size]) rfl
 refine Axu (Bh (Ai (Ab (Af rfl) Ag) (Lz h))) ?_
 apply Axu
 .exact Dk (Ef (Aj (Ai (Ab (Af rfl) Ag) (Vy size)))) (by rw[decide_eq_true h1,decide_eq_true h2];rfl) Av
 apply Ah2
 refine Ba0 (Aj (Ao (Ai (Ab (Af rfl) Ag) (len_str hl)) (Ai (Ab (Af rfl) Ag) (Aig size)) Ln)) ?_ (Ah2 (Af7 (Ab Ae (Ab Ae Ag)) rfl))
 rw[decide_eq_true_eq]
 exact hb
end
def outs (rs:List (Str×Cl)):List Int:=rs.filterMap fun r=>match r.2 with
 |.out _ p=>some p
 |.inn _=>none
def Pg.ways:Pg->List Int
 |.head a _ _ d=>[a,d]
 |.leaf rs=>outs rs
 |.fork _ ps=>ps
 |.rest _ n=>[n]
 |.free n=>[n]
def Pg.leads (p:Pg):List Int:=p.ways.filter fun n=>!(n==0)
theorem Pg.ways_len {p:Pg} (h:p.ok):p.ways.length≤64:=by
 cases p with
 |head a b c d=>exact(by decide:2≤64)
 |leaf rs=>exact Nat.le_trans (List.length_filterMap_le _ _) (Nat.le_trans h.1 (by decide))
 |fork ks ps=>
  have h1:=h.1.1
  have h2:=h.2.1
  show ps.length≤64
  omega
 |rest t n=>exact(by decide:1≤64)
 |free n=>exact(by decide:1≤64)
def Aih (r:Str×Cl):Bool:=match r.2 with
 |.out _ _=>true
 |.inn _=>false
def Ax1 (r:Str×Cl):Int:=match r.2 with
 |.out _ p=>p
 |.inn _=>0
theorem Aii (rs:List (Str×Cl)):(rs.filter Aih).map (fun r=>W.int (Ax1 r))=(outs rs).map W.int:=by
 induction rs with
 |nil=>rfl
 |cons r rs ih=>
  obtain⟨k,c⟩:=r
  cases c with
  |inn t=>exact ih
  |out n p=>
   show W.int p::(rs.filter Aih).map _=W.int p::(outs rs).map W.int
   rw[ih]
section
variable {P:SP} {ns:List Int}
theorem O6 {ws:List W} {w:W}:atI (ws ++ [w]) (-1)=some w:=by
 unfold atI ixN
 have hl:(ws ++ [w]).length=ws.length+1:=by simp
 rw[if_neg (by decide),hl,if_pos (by omega)]
 show (ws ++ [w])[((-1:Int)+((ws.length+1:Nat):Int)).toNat]?=some w
 have:((-1:Int)+((ws.length+1:Nat):Int)).toNat=ws.length:=by omega
 rw[this,List.getElem?_append_right (Nat.le_refl _),Nat.sub_self]
 rfl
theorem Ug {δ:De} {f:De->M W} {i:Int} (h:Pu P (f δ) (.int i)):Pu P (Adn f δ) (.int (-i)):=h.bind Pu.pure
theorem Aex {p:Pg} (h:p.ok):PuL P (Mt ns [p.w]) (p.leads.map W.int):=by
 apply Ah7 (us:=[p.w]) rfl
 apply Ky
 .exact Dk (Ef (Aj (Ai (Ab (Af rfl) Ag) (Aid h)))) rfl Av
 refine Ba1 (i:=1) (ws:=p.ways.map W.int) ?_ fun n=>?_
 .cases p with
  |head a b c d=>
   refine Agc (Aj (Ao (Aw (Af rfl) Ae (Aq rfl)) Ae (Ay (by decide +kernel) (by decide +kernel)))) (by decide +kernel) (Hd (W8 ?_))
   exact Jr (Ab (Aw (Af rfl) Ae (Aq rfl)) (Ab (Aw (Af rfl) Ae (Aq rfl)) Ag)) (show 2≤big by decide)
  |leaf rs=>
   refine Mp (Aj (Ao (Aw (Af rfl) Ae (Aq rfl)) Ae (Ay (by decide +kernel) (by decide +kernel)))) (by decide +kernel) (Hd ?_)
   refine Agc (Aj (Ao (Aw (Af rfl) Ae (Aq rfl)) Ae (Ay (by decide +kernel) (by decide +kernel)))) (by decide +kernel) (Hd (W8 ?_))
   have hh:=Vt (P:=P) (xs:=rs) (φ:=Km) (ψ:=fun r=>W.int (Ax1 r)) (τ:=Aih) (s:=Cr 0) (t:=Az (Bc .Eq (ixF ns (ixF ns (Ac 0) (kF (.int 1))) (kF (.int 0))) (kF (.str "out")))) (e:=ixF ns (ixF ns (Ac 0) (kF (.int 1))) (kF (.int 2))) (k:=1) (cap:=[]) (δ:=Bp 2 [Pg.w (.leaf rs)]) (src:=Eh ns (ixF ns (Ac 0) (kF (.int 1)))) (Ey (Aw (Af rfl) Ae (Aq rfl))) Ra (fun r hr=>by
    obtain⟨k,c⟩:=r
    cases c with
    |inn t=>exact⟨(Aj (Ao (Aw (Aw (Af rfl) Ae (Aq rfl)) Ae (Aq rfl)) Ae (Ay (by decide +kernel) (by decide +kernel)))).cast (by decide +kernel:(Str.ofString "in"==Str.ofString "out")=false),fun z=>by cases z⟩
    |out n p=>exact⟨(Aj (Ao (Aw (Aw (Af rfl) Ae (Aq rfl)) Ae (Aq rfl)) Ae (Ay (by decide +kernel) (by decide +kernel)))).cast (by decide +kernel:(Str.ofString "out"==Str.ofString "out")=true),fun _=>Aw (Aw (Af rfl) Ae (Aq rfl)) Ae (Aq rfl)⟩) ⟨none,rfl⟩ (Nat.le_trans h.1 (by decide))
   rw[Aii] at hh
   exact hh
  |fork ks ps=>
   refine Mp (Aj (Ao (Aw (Af rfl) Ae (Aq rfl)) Ae (Ay (by decide +kernel) (by decide +kernel)))) (by decide +kernel) (Hd ?_)
   refine Mp (Aj (Ao (Aw (Af rfl) Ae (Aq rfl)) Ae (Ay (by decide +kernel) (by decide +kernel)))) (by decide +kernel) (Hd ?_)
   refine Agc (Aj (Ao (Aw (Af rfl) Ae (Aq rfl)) Ae (Ay (by decide +kernel) (by decide +kernel)))) (by decide +kernel) (Hd (W8 ?_))
   exact Ad0 (Ab (Aw (Af rfl) Ae (Aq rfl)) Ag) (Ad3 (by rw[List.length_map];exact Nat.le_trans (Pg.ways_len (p:=.fork ks ps) h) (by decide)))
  |rest t n=>
   refine Mp (Aj (Ao (Aw (Af rfl) Ae (Aq rfl)) Ae (Ay (by decide +kernel) (by decide +kernel)))) (by decide +kernel) (Hd ?_)
   refine Mp (Aj (Ao (Aw (Af rfl) Ae (Aq rfl)) Ae (Ay (by decide +kernel) (by decide +kernel)))) (by decide +kernel) (Hd ?_)
   refine Mp (Aj (Ao (Aw (Af rfl) Ae (Aq rfl)) Ae (Ay (by decide +kernel) (by decide +kernel)))) (by decide +kernel) (Hd (W8 ?_))
   exact Jr (Ab (Aw (Af rfl) (Ug Ae) (Aq (O6 (ws:=[.str "rest",.str t])))) Ag) (show 1≤big by decide)
  |free n=>
   refine Mp (Aj (Ao (Aw (Af rfl) Ae (Aq rfl)) Ae (Ay (by decide +kernel) (by decide +kernel)))) (by decide +kernel) (Hd ?_)
   refine Mp (Aj (Ao (Aw (Af rfl) Ae (Aq rfl)) Ae (Ay (by decide +kernel) (by decide +kernel)))) (by decide +kernel) (Hd ?_)
   refine Mp (Aj (Ao (Aw (Af rfl) Ae (Aq rfl)) Ae (Ay (by decide +kernel) (by decide +kernel)))) (by decide +kernel) (Hd (W8 ?_))
   exact Jr (Ab (Aw (Af rfl) (Ug Ae) (Aq (O6 (ws:=[.str "free"])))) Ag) (show 1≤big by decide)
 .apply Js
  apply Sx
  exact Abq (P:=P.at n (p.ways.map W.int)) (xs:=p.ways) (φ:=W.int) (ψ:=W.int) (τ:=fun n=>!(n==0)) (s:=Cr 0) (t:=Az (Bc .NotEq (Ac 0) (kF (.int 0)))) (e:=Ac 0) (k:=1) (cap:=[]) (δ:=(Bp 2 [p.w]).set 1 (some (.ref n))) (src:=Eh ns (Ac 1)) (n:=n) (fun _ h=>h.2) (Abr (fun _ h=>h.2) (Af rfl)) Ra (fun m _=>⟨Aj (Ao (Af rfl) Ae Anv),fun _=>Af rfl⟩) ⟨none,rfl⟩ (Nat.le_trans (Pg.ways_len h) (by decide))
end
section
variable {P:SP} {ns:List Int}
theorem Aag {n:Int} (h0:0≤n):Pu P (Be ns [.int n,.int 1]) (.str (M1.Cw 1 n)):=by
 apply Bq (ws:=[.int n,.int 1]) rfl
 refine Ca (Bh Ae) ?_
 refine Ca (Bh Ae) ?_
 apply Ca
 .apply Mm
  .exact Hc (k:=1) (Ab (Af rfl) Ag) (by decide)
  .apply J4 rfl
   .exact Nf (Bh (Al (Aw (Af rfl) (Al (Af rfl) Ae (Cp (by decide))) (Vw (n % 64) (by omega) (by omega))) (Af rfl) (Bs (by show 1+0≤big;decide)))) (Nf (Bh (Al (Af rfl) Ae (Di (by decide) (by decide)))) Av)
   .exact Q9
 apply Bm
 apply Bf
 refine Pu.cast (Af rfl) ?_
 show W.str (M1.one (M1.sg (n % 64).toNat) ++ ⟨#[]⟩)=W.str (M1.one (M1.sg (n / 64 ^ 0 % 64).toNat) ++ ⟨#[]⟩)
 rw[Int.pow_zero,Int.ediv_one]
theorem X8 {n:Int} (h0:0≤n):Pu P (Be ns [.int n,.int 2]) (.str (M1.Cw 2 n)):=by
 apply Bq (ws:=[.int n,.int 2]) rfl
 refine Ca (Bh Ae) ?_
 refine Ca (Bh Ae) ?_
 apply Ca
 .apply Mm
  .exact Hc (k:=2) (Ab (Af rfl) Ag) (by decide)
  .apply J4 rfl
   .exact Nf (Bh (Al (Aw (Af rfl) (Al (Af rfl) Ae (Cp (by decide))) (Vw (n % 64) (by omega) (by omega))) (Af rfl) (Bs (by show 1+0≤big;decide)))) (Nf (Bh (Al (Af rfl) Ae (Di (by decide) (by decide)))) Av)
   apply J4 rfl
   .exact Nf (Bh (Al (Aw (Af rfl) (Al (Af rfl) Ae (Cp (by decide))) (Vw (n / 64 % 64) (by omega) (by omega))) (Af rfl) (Bs (by show 1+(1+0)≤big;decide)))) (Nf (Bh (Al (Af rfl) Ae (Di (by decide) (by decide)))) Av)
   .exact Q9
 apply Bm
 apply Bf
 refine Pu.cast (Af rfl) ?_
 show W.str (M1.one (M1.sg (n / 64 % 64).toNat) ++ (M1.one (M1.sg (n % 64).toNat) ++ ⟨#[]⟩))=W.str (M1.one (M1.sg (n / 64 ^ 1 % 64).toNat) ++ (M1.one (M1.sg (n / 64 ^ 0 % 64).toNat) ++ ⟨#[]⟩))
 rw[Int.pow_zero,Int.ediv_one]
 rfl
end
theorem Ej (x y z:Str):x ++ y ++ z=x ++ (y ++ z):=by
 show (⟨x.cps ++ y.cps ++ z.cps⟩:Str)=⟨x.cps ++ (y.cps ++ z.cps)⟩
 rw[Array.append_assoc]
theorem Vz:∀(ys:List Str) (y:Str),jn (ys ++ [y])=jn ys ++ y
 |[],y=>by
  rw[List.nil_append,Jx,X6,Gn]
  show y=⟨#[] ++ y.cps⟩
  rw[Array.empty_append]
 |x::ys,y=>by rw[List.cons_append,Jx,Vz ys y,Jx,Ej]
section
variable {P:SP} {ns:List Int}
theorem Ach {β:Type} {s:Tg} {b:MS} {φ:β->W} {D:List β->De} {xs:List β} (h:∀pre x post,xs=pre ++ x::post->∃δ1,s (φ x) (D pre)=some δ1∧PuN P b δ1 (D (pre ++ [x]))):PuN P (Lg s b (xs.map φ)) (D []) (D xs):=by
 have aux:∀post pre,xs=pre ++ post->PuN P (Lg s b (post.map φ)) (D pre) (D xs):=by
  intro post
  induction post with
  |nil=>intro pre e;rw[List.append_nil] at e;subst e;exact Q9
  |cons x post ih=>
   intro pre e
   obtain⟨δ1,h1,h2⟩:=h pre x post e
   exact J4 h1 h2 (ih (pre ++ [x]) (by rw[e];simp))
 exact aux xs [] rfl
def kSl (w:W) (n:Int) (ks:List Str):De:=[some w,some (.str (M1.Cw 1 n ++ jn (ks.map Gz))),ks.getLast?.map W.str,none]
theorem As7 {w:W} {ks:List Str} {n:Int} (hk:∀k∈ks,isKey k=true) (hl:ks.length≤63):PuN P (Lg (Cr 2) (Ak (Bx 1 (Ar .add (Ar .add (Ac 1) (Ah (Be ns) (Aa (Ah (Cv ns) (Aa (Ac 2) nilF)) (Aa (kF (.int 1)) nilF)))) (Ac 2))) Am) (ks.map W.str)) (kSl w n []) (kSl w n ks):=by
 refine Ach fun pre k post e=>⟨(kSl w n pre).set 2 (some (.str k)),rfl,?_⟩
 have hkk:isKey k=true:=hk k (by rw[e];simp)
 have hpre:∀y∈pre.map Gz,y.length≤13:=fun y hy=>by
  obtain⟨k',hk',rfl⟩:=List.mem_map.mp hy
  exact Ke (hk k' (by rw[e];simp[hk']))
 have hj:(jn (pre.map Gz)).length≤63 * 13:=Aaf hpre (by rw[List.length_map];rw[e] at hl;simp at hl;omega)
 have hkl:=Ke hkk
 unfold Gz at hkl
 rw[len_app,Bj] at hkl
 have e2:kSl w n (pre ++ [k])=((kSl w n pre).set 2 (some (.str k))).set 1 (some (.str (M1.Cw 1 n ++ jn (pre.map Gz) ++ M1.Cw 1 k.length ++ k))):=by
  unfold kSl
  rw[List.map_append,List.map_cons,List.map_nil,Vz,List.getLast?_append]
  show [_,some (W.str (M1.Cw 1 n ++ (jn (pre.map Gz) ++ Gz k))),_,_]=[_,some (W.str (M1.Cw 1 n ++ jn (pre.map Gz) ++ M1.Cw 1 k.length ++ k)),_,_]
  unfold Gz
  rw[Ej,Ej]
  rfl
 rw[e2]
 refine Nf (Bh (Al (Al (Af rfl) (Ai (Ab (Ai (Ab (Af rfl) Ag) (len_str (Rw hkk))) (Ab Ae Ag)) (Aag (by omega))) (Bs ?_)) (Af rfl) (Bs ?_))) Av
 .rw[len_app,Bj,Bj]
  exact Nat.le_trans (show 1+(jn (pre.map Gz)).length+1≤1+63 * 13+1 by omega) (by decide)
 .rw[len_app,len_app,Bj,Bj]
  exact Nat.le_trans (show 1+(jn (pre.map Gz)).length+1+k.length≤1+63 * 13+13 by omega) (by decide)
theorem Aoj {δ:De} {f:De->M Src} {ps:List Int} (h1:Pu P (f δ) (.fix (ps.map W.int))) (hp:∀p∈ps,0≤p) (hl:ps.length≤1000):Pu P (Ji .str J2 (kF (.str "")) (Aa (Cy 1 [] f (Cr 0) (fun _=>pure true) (Ah (Be ns) (Aa (Ac 0) (Aa (kF (.int 2)) nilF)))) nilF) δ) (.str (Ia ps)):=by
 refine Rx (c:=2) ?_ (fun y hy=>?_) (by rw[List.length_map];exact Nat.le_trans (Nat.mul_le_mul_right 2 hl) (by decide))
 .have h:=Fl (P:=P) (xs:=ps) (φ:=W.int) (ψ:=fun p=>W.str (M1.Cw 2 p)) (t:=fun _=>pure true) (e:=Ah (Be ns) (Aa (Ac 0) (Aa (kF (.int 2)) nilF))) (cs:=[]) (cap:=[]) (δ:=δ) h1 rfl (Nat.le_trans hl (by decide))
   (fun p hp'=>⟨Pu.pure,Ai (Ab (Af rfl) (Ab Ae Ag)) (X8 (hp p hp'))⟩)
  rw[List.map_map]
  exact h
 .obtain⟨p,_,rfl⟩:=List.mem_map.mp hy
  exact Nat.le_of_eq (Bj 2 p)
theorem Aci {ks:List Str} {ps:List Int} (h:Pg.ok (.fork ks ps)):Pu P (Dw ns [Pg.w (.fork ks ps)]) (.str (Pg.body (.fork ks ps))):=by
 obtain⟨⟨h1,h2,h3⟩,h4,h5⟩:=h
 have hc:∀y∈ks.map Gz,y.length≤13:=fun y hy=>by
  obtain⟨k,hk,rfl⟩:=List.mem_map.mp hy
  exact Ke (h2 k hk)
 have hj:(jn (ks.map Gz)).length≤63 * 13:=Aaf hc (by rw[List.length_map];exact h1)
 apply Bq (ws:=[Pg.w (.fork ks ps)]) rfl
 apply Ca
 .exact Dk (Aj (Ao (Aw (Af rfl) Ae (Aq rfl)) Ae (Ay (by decide +kernel) (by decide +kernel)))) (by decide +kernel) Av
 apply Ca
 .exact Dk (Gy (Aj (Ao (Aw (Af rfl) Ae (Aq rfl)) Ae (Ay (by decide +kernel) (by decide +kernel)))) (Aj (Ao (Aw (Af rfl) Ae (Aq rfl)) Ae (Ay (by decide +kernel) (by decide +kernel))))) (by decide +kernel) Av
 refine Ca (Bh (w:=.str (M1.Cw 1 ks.length)) (Ai (Ab ((Ai (Ab (Aw (Af rfl) Ae (Aq rfl)) Ag) Es).cast (by rw[List.length_map])) (Ab Ae Ag)) (Aag (by omega)))) ?_
 apply Bm
 apply Nu
 .exact Aj (Ao (Aw (Af rfl) Ae (Aq rfl)) Ae (Ay (by decide +kernel) (by decide +kernel)))
 .decide +kernel
 have e0:(Bp 4 [Pg.w (.fork ks ps)]).set 1 (some (.str (M1.Cw 1 ks.length)))=kSl (Pg.w (.fork ks ps)) ks.length []:=by
  show [some (Pg.w (.fork ks ps)),some (W.str (M1.Cw 1 ks.length)),none,none]=[_,some (W.str (M1.Cw 1 ks.length ++ jn [])),_,_]
  rw[X6,Gn]
  rfl
 refine Ca (δ1:=kSl (Pg.w (.fork ks ps)) ks.length ks) (Mm (Ey (Aw (Af rfl) Ae (Aq rfl))) ?_) ?_
 .have:=As7 (P:=P) (ns:=ns) (w:=Pg.w (.fork ks ps)) (n:=ks.length) h2 h1
  rw[←e0] at this
  exact this
 .apply Bm
  apply Bf
  refine Al (Af rfl) (Aoj (Ey (Aw (Af rfl) Ae (Aq rfl))) (fun q hq=>(Gp (h5 q hq) (by decide)).1) (by omega)) (Bs ?_)
  rw[len_app,Bj,Fq]
  exact Nat.le_trans (show 1+(jn (ks.map Gz)).length+2 * ps.length≤1+63 * 13+128 by omega) (by decide)
end
section
variable {P:SP} {ns:List Int}
def rSl (w:W) (n:Int) (rs:List (Str×Cl)):De:=[some w,some (.str (M1.Cw 1 n ++ jn (rs.map Hu))),rs.getLast?.map fun r=>W.str r.1,rs.getLast?.map fun r=>r.2.w]
theorem As8 {w:W} {rs:List (Str×Cl)} {n:Int} (hr:∀r∈rs,isKey r.1=true∧r.2.ok=true) (hl:rs.length≤63) :
  PuN P (Lg (Q5 [2,3]) (Ak (Bx 1 (Ar .add (Ar .add (Ac 1) (Ah (Be ns) (Aa (Ah (Cv ns) (Aa (Ac 2) nilF)) (Aa (kF (.int 1)) nilF)))) (Ac 2)))
  (Ak (ifS (Az (Bc .Eq (ixF ns (Ac 3) (kF (.int 0))) (kF (.str "in")))) (Ak (Bx 1 (Ar .add (Ar .add (Ar .add (Ac 1) (kF (.str "i"))) (Ah (Be ns) (Aa (Ah (Cv ns) (Aa (ixF ns (Ac 3) (kF (.int 1))) nilF)) (Aa (kF (.int 1)) nilF)))) (ixF ns (Ac 3) (kF (.int 1)))))
   Am) (Ak (Bx 1 (Ar .add (Ar .add (Ar .add (Ac 1) (kF (.str "o"))) (Ah (Be ns) (Aa (ixF ns (Ac 3) (kF (.int 1))) (Aa (kF (.int 2)) nilF)))) (Ah (Be ns) (Aa (ixF ns (Ac 3) (kF (.int 2))) (Aa (kF (.int 2)) nilF)))))
   Am))
  Am)) (rs.map Km)) (rSl w n []) (rSl w n rs):=by
 refine Ach fun pre r post e=>⟨((rSl w n pre).set 2 (some (.str r.1))).set 3 (some r.2.w),rfl,?_⟩
 obtain⟨k,c⟩:=r
 have hkk:isKey k=true:=(hr (k,c) (by rw[e];simp)).1
 have hcc:c.ok=true:=(hr (k,c) (by rw[e];simp)).2
 have hpre:∀y∈pre.map Hu,y.length≤78:=fun y hy=>by
  obtain⟨k',hk',rfl⟩:=List.mem_map.mp hy
  have:=hr k' (by rw[e];simp[hk'])
  exact X7 this.1 this.2
 have hj:(jn (pre.map Hu)).length≤63 * 78:=Aaf hpre (by rw[List.length_map];rw[e] at hl;simp at hl;omega)
 have hkl:=Ke hkk
 unfold Gz at hkl
 rw[len_app,Bj] at hkl
 refine Nf (δ1:=(((rSl w n pre).set 2 (some (.str k))).set 3 (some c.w)).set 1 (some (.str (M1.Cw 1 n ++ jn (pre.map Hu) ++ M1.Cw 1 k.length ++ k)))) (Bh (Al (Al (Af rfl) (Ai (Ab (Ai (Ab (Af rfl) Ag) (len_str (Rw hkk))) (Ab Ae Ag)) (Aag (by omega))) (Bs ?_)) (Af rfl) (Bs ?_))) ?_
 .rw[len_app,Bj,Bj]
  exact Nat.le_trans (show 1+(jn (pre.map Hu)).length+1≤1+63 * 78+1 by omega) (by decide)
 .rw[len_app,len_app,Bj,Bj]
  exact Nat.le_trans (show 1+(jn (pre.map Hu)).length+1+k.length≤1+63 * 78+13 by omega) (by decide)
 have e2:rSl w n (pre ++ [(k,c)])=((((rSl w n pre).set 2 (some (.str k))).set 3 (some c.w)).set 1 (some (.str (M1.Cw 1 n ++ jn (pre.map Hu) ++ M1.Cw 1 k.length ++ k)))).set 1 (some (.str (M1.Cw 1 n ++ jn (pre.map Hu) ++ M1.Cw 1 k.length ++ k ++ c.t))):=by
  unfold rSl
  rw[List.map_append,List.map_cons,List.map_nil,Vz,List.getLast?_append]
  show [_,some (W.str (M1.Cw 1 n ++ (jn (pre.map Hu) ++ Hu (k,c)))),_,_]=[_,some (W.str (M1.Cw 1 n ++ jn (pre.map Hu) ++ M1.Cw 1 k.length ++ k ++ c.t)),_,_]
  unfold Hu Gz
  rw[Ej,Ej,Ej,Ej]
  rfl
 rw[e2]
 have hA:(M1.Cw 1 n ++ jn (pre.map Hu) ++ M1.Cw 1 k.length ++ k).length≤5000:=by
  rw[len_app,len_app,len_app,Bj,Bj]
  omega
 generalize hgA:M1.Cw 1 n ++ jn (pre.map Hu) ++ M1.Cw 1 k.length ++ k=A at hA ⊢
 refine Nf ?_ Av
 cases c with
 |inn t=>
  unfold Cl.ok at hcc
  rw[Bool.and_eq_true,decide_eq_true_eq] at hcc
  refine Baz (Aj (Ao (Aw (Af rfl) Ae (Aq rfl)) Ae (Ay (by decide +kernel) (by decide +kernel)))) (by decide +kernel) ?_
  have ea:A ++ Cl.t (.inn t)=A ++ "i" ++ M1.Cw 1 t.length ++ t:=by
   show A ++ ("i" ++ M1.Cw 1 t.length ++ t)=_
   rw[Ej,Ej,Ej]
  rw[ea]
  refine Nf (Bh (Al (Al (Al (Af rfl) Ae (Bs ?_)) (Ai (Ab (Ai (Ab (Aw (Af rfl) Ae (Aq rfl)) Ag) (len_str (Nat.le_trans hcc.2 (by decide)))) (Ab Ae Ag)) (Aag (by omega))) (Bs ?_)) (Aw (Af rfl) Ae (Aq rfl)) (Bs ?_))) Av
  .exact Nat.le_trans (Nat.add_le_add_right hA _) (by decide)
  .rw[len_app,Bj]
   exact Nat.le_trans (Nat.add_le_add_right (Nat.add_le_add_right hA _) _) (by decide)
  .rw[len_app,len_app,Bj]
   exact Nat.le_trans (Nat.add_le_add (Nat.add_le_add_right (Nat.add_le_add_right hA _) _) hcc.2) (by decide)
 |out m p=>
  unfold Cl.ok at hcc
  rw[Bool.and_eq_true,Bool.and_eq_true,decide_eq_true_eq,decide_eq_true_eq] at hcc
  refine Dk (Aj (Ao (Aw (Af rfl) Ae (Aq rfl)) Ae (Ay (by decide +kernel) (by decide +kernel)))) (by decide +kernel) ?_
  have ea:A ++ Cl.t (.out m p)=A ++ "o" ++ M1.Cw 2 m ++ M1.Cw 2 p:=by
   show A ++ ("o" ++ jn ([m,p].map (M1.Cw 2)))=_
   rw[List.map_cons,List.map_cons,List.map_nil,Jx,Jx,X6,Gn,Ej,Ej]
  rw[ea]
  refine Nf (Bh (Al (Al (Al (Af rfl) Ae (Bs ?_)) (Ai (Ab (Aw (Af rfl) Ae (Aq rfl)) (Ab Ae Ag)) (X8 (by omega))) (Bs ?_)) (Ai (Ab (Aw (Af rfl) Ae (Aq rfl)) (Ab Ae Ag)) (X8 (Gp hcc.2 (by decide)).1)) (Bs ?_))) Av
  .exact Nat.le_trans (Nat.add_le_add_right hA _) (by decide)
  .rw[len_app,Bj]
   exact Nat.le_trans (Nat.add_le_add_right (Nat.add_le_add_right hA _) _) (by decide)
  .rw[len_app,len_app,Bj,Bj]
   exact Nat.le_trans (Nat.add_le_add_right (Nat.add_le_add_right (Nat.add_le_add_right hA _) _) _) (by decide)
theorem Kg {p:Pg} (h:p.ok):Pu P (Dw ns [p.w]) (.str p.body):=by
 cases p with
 |fork ks ps=>exact Aci h
 |head a b c d=>
  obtain⟨h1,h2,h3,h4⟩:=h
  apply Bq (ws:=[Pg.w (.head a b c d)]) rfl
  apply Ca
  .exact Dk (Aj (Ao (Aw (Af rfl) Ae (Aq rfl)) Ae (Ay (by decide +kernel) (by decide +kernel)))) (by decide +kernel) Av
  apply Bm
  refine Nu (Gy (Aj (Ao (Aw (Af rfl) Ae (Aq rfl)) Ae (Ay (by decide +kernel) (by decide +kernel)))) (Aj (Ao (Aw (Af rfl) Ae (Aq rfl)) Ae (Ay (by decide +kernel) (by decide +kernel))))) (by decide +kernel) (Bm (Bf ?_))
  exact Aoj (ps:=[a,b,c,d]) (Ey (Pr (Af rfl) (Hz Ae) Gv Pu.pure)) (fun q hq=>by
   simp only[List.mem_cons,List.not_mem_nil,or_false] at hq
   rcases hq with rfl|rfl|rfl|rfl <;> exact(Gp ‹_› (by decide)).1) (show 4≤1000 by decide)
 |free n=>
  apply Bq (ws:=[Pg.w (.free n)]) rfl
  apply Ca
  .exact Dk (Aj (Ao (Aw (Af rfl) Ae (Aq rfl)) Ae (Ay (by decide +kernel) (by decide +kernel)))) (by decide +kernel) Av
  apply Bm
  refine Nu (Gy (Aj (Ao (Aw (Af rfl) Ae (Aq rfl)) Ae (Ay (by decide +kernel) (by decide +kernel)))) (Aj (Ao (Aw (Af rfl) Ae (Aq rfl)) Ae (Ay (by decide +kernel) (by decide +kernel))))) (by decide +kernel) (Bm (Bf ?_))
  exact Aoj (ps:=[n]) (Ey (Pr (Af rfl) (Hz Ae) Gv Pu.pure)) (fun q hq=>by
   rw[List.mem_singleton] at hq
   subst hq
   exact(Gp h (by decide)).1) (show 1≤1000 by decide)
 |rest t n=>
  obtain⟨h1,h2,h3,h4⟩:=h
  apply Bq (ws:=[Pg.w (.rest t n)]) rfl
  apply Bm
  refine Nu (Aj (Ao (Aw (Af rfl) Ae (Aq rfl)) Ae (Ay (by decide +kernel) (by decide +kernel)))) (by decide +kernel) (Bm (Bf ?_))
  have e:Pg.body (.rest t n)=M1.Cw 2 n ++ t:=by
   show jn ([n].map (M1.Cw 2)) ++ t=_
   rw[List.map_cons,List.map_nil,Jx,X6,Gn]
  rw[e]
  exact Al (Ai (Ab (Aw (Af rfl) Ae (Aq rfl)) (Ab Ae Ag)) (X8 (Gp h4 (by decide)).1)) (Aw (Af rfl) Ae (Aq rfl)) (Bs (by
   rw[Bj]
   exact Nat.le_trans (Nat.add_le_add_left h3 _) (by decide)))
 |leaf rs=>
  obtain⟨h1,h2,h3⟩:=h
  apply Bq (ws:=[Pg.w (.leaf rs)]) rfl
  apply Ca
  .exact Dk (Aj (Ao (Aw (Af rfl) Ae (Aq rfl)) Ae (Ay (by decide +kernel) (by decide +kernel)))) (by decide +kernel) Av
  apply Ca
  .exact Dk (Gy (Aj (Ao (Aw (Af rfl) Ae (Aq rfl)) Ae (Ay (by decide +kernel) (by decide +kernel)))) (Aj (Ao (Aw (Af rfl) Ae (Aq rfl)) Ae (Ay (by decide +kernel) (by decide +kernel))))) (by decide +kernel) Av
  refine Ca (Bh (w:=.str (M1.Cw 1 rs.length)) (Ai (Ab ((Ai (Ab (Aw (Af rfl) Ae (Aq rfl)) Ag) Es).cast (by rw[List.length_map])) (Ab Ae Ag)) (Aag (by omega)))) ?_
  apply Ca
  .exact Dk (Aj (Ao (Aw (Af rfl) Ae (Aq rfl)) Ae (Ay (by decide +kernel) (by decide +kernel)))) (by decide +kernel) Av
  have e0:(Bp 4 [Pg.w (.leaf rs)]).set 1 (some (.str (M1.Cw 1 rs.length)))=rSl (Pg.w (.leaf rs)) rs.length []:=by
   show [some (Pg.w (.leaf rs)),some (W.str (M1.Cw 1 rs.length)),none,none]=[_,some (W.str (M1.Cw 1 rs.length ++ jn [])),_,_]
   rw[X6,Gn]
   rfl
  refine Ca (δ1:=rSl (Pg.w (.leaf rs)) rs.length rs) (Mm (Ey (Aw (Af rfl) Ae (Aq rfl))) ?_) (Bm (Bf (Af rfl)))
  have:=As8 (P:=P) (ns:=ns) (w:=Pg.w (.leaf rs)) (n:=rs.length) h2 h1
  rw[←e0] at this
  exact this
end
def Ma:Str:=" !\"#$?&'()*+,-./0123456789:;<=>?@ABCDEFGHIJKLMNOPQRSTUVWXYZ[\\]^_`abcdefghijklmnopqrstuvwxyz{|}~"
theorem Ax2:∀c,c < 127->M2.okC c=true->c≠63->Txt.find Ma ⟨#[c]⟩=(c:Int) - 32:=by decide +kernel
theorem As9:Txt.rfind Ma ⟨#[63]⟩=31:=by decide +kernel
def Vb (z:Str) (pre:List Nat):De:=match pre.length with
 |0=>[some (.str z),some (.str Ma),some (.int 0),none,none,none]
 |j+1=>[some (.str z),some (.str Ma),some (.int (M2.Vg z.cps.toList (j+1))),some (.int (0+(j:Int))),some (.str ⟨#[z.cps.toList.getD j 0]⟩),some (.int ((z.cps.toList.getD j 0:Nat) - 32:Int))]
section
variable {P:SP} {ns:List Int}
theorem Aok {n:Nat} {pre post:List Nat} {x:Nat} (e:List.range n=pre ++ x::post):x=pre.length∧x < n:=by
 have h1:(List.range n)[pre.length]?=some x:=by rw[e,List.getElem?_append_right (Nat.le_refl _),Nat.sub_self];rfl
 obtain⟨h2,h3⟩:=List.getElem?_eq_some_iff.mp h1
 rw[List.getElem_range] at h3
 rw[List.length_range] at h2
 exact⟨h3.symm,by omega⟩
theorem Aan {z:Str} {j:Nat} (hz:z.length≤big) (hj:j < z.length):Pu P (ixW ns (.str z) (.int (0+(j:Int)))) (.str ⟨#[z.cps.toList.getD j 0]⟩):=by
 have hl:z.cps.toList.length=z.length:=Array.length_toList
 have e:atI z.cps.toList (0+(j:Int))=some (z.cps.toList.getD j 0):=by
  unfold atI ixN
  rw[Int.zero_add,if_pos (Int.natCast_nonneg j),if_pos (by rw[hl];omega)]
  show z.cps.toList[((j:Nat):Int).toNat]?=_
  rw[Int.toNat_natCast,List.getElem?_eq_getElem (by omega),List.getD_eq_getElem?_getD,List.getElem?_eq_getElem (by omega)]
  rfl
 unfold ixW
 dsimp only
 rw[e]
 exact Kp hz Pu.pure
theorem Ako {z:Str} (hz:z.length≤big) (ht:M2.Ea z=true):Pu P (Mw ns [.str z]) (.str (M2.check z)):=by
 have hsz:z.cps.toList.length=z.length:=Array.length_toList
 apply Bq (ws:=[.str z]) rfl
 refine Ca (Bh (w:=.str Ma) Ae) ?_
 refine Ca (Bh Ae) ?_
 refine Ca (δ1:=Vb z (List.range z.length)) (Mm (Hc (k:=z.length) (Ab (Ai (Ab (Af rfl) Ag) (len_str hz)) Ag) hz) ?_) ?_
 .refine Ach (D:=Vb z) fun pre x post e=>?_
  obtain⟨hx,hn⟩:=Aok e
  have hc:M2.okC (z.cps.toList.getD x 0)=true:=M2.Aib (by unfold M2.Ea at ht;exact ht) (by omega)
  have hc2:=M2.Ass.mp hc
  have e1:∃a b c,Vb z pre=[some (.str z),some (.str Ma),some (.int (M2.Vg z.cps.toList x)),a,b,c]:=by
   unfold Vb
   cases hp:pre.length with
   |zero=>rw[hp] at hx;subst hx;exact⟨_,_,_,rfl⟩
   |succ j=>rw[hp] at hx;subst hx;exact⟨_,_,_,rfl⟩
  obtain⟨a,b,c,e1⟩:=e1
  rw[e1]
  refine⟨[some (.str z),some (.str Ma),some (.int (M2.Vg z.cps.toList x)),some (.int (0+(x:Int))),b,c],rfl,?_⟩
  have e3:Vb z (pre ++ [x])=[some (.str z),some (.str Ma),some (.int (M2.Vg z.cps.toList (x+1))),some (.int (0+(x:Int))),some (.str ⟨#[z.cps.toList.getD x 0]⟩),some (.int ((z.cps.toList.getD x 0:Nat) - 32:Int))]:=by
   unfold Vb
   have:(pre ++ [x]).length=x+1:=by simp[hx]
   rw[this]
  rw[e3,M2.Aj9]
  generalize hg:z.cps.toList.getD x 0=d at hc hc2
  refine Nf (δ1:=[some (.str z),some (.str Ma),some (.int (M2.Vg z.cps.toList x)),some (.int (0+(x:Int))),some (.str ⟨#[d]⟩),c]) (Bh ((Aw (Af rfl) (Af rfl) (Aan hz hn)).cast (by rw[hg]))) ?_
  refine Nf (δ1:=[some (.str z),some (.str Ma),some (.int (M2.Vg z.cps.toList x)),some (.int (0+(x:Int))),some (.str ⟨#[d]⟩),some (.int (Txt.find Ma ⟨#[d]⟩))]) (Bh (Acd (Af rfl) (Ab (Af rfl) Ag) Pu.pure)) ?_
  refine Nf (δ1:=[some (.str z),some (.str Ma),some (.int (M2.Vg z.cps.toList x)),some (.int (0+(x:Int))),some (.str ⟨#[d]⟩),some (.int ((d:Nat) - 32:Int))]) ?_ ?_
  .by_cases h63:d=63
   .subst h63
    refine Baz (Aj (Ao (Af rfl) Ae (Ay (by decide +kernel) (by decide +kernel)))) (by decide +kernel) (Nf (Bh ((Acd (Af rfl) (Ab (Af rfl) Ag) Pu.pure).cast (by rw[As9];rfl))) Av)
   .have hd:∀d,d < 127->PyData.strOk (⟨#[d]⟩:Str)=true:=by decide +kernel
    have hne:((⟨#[d]⟩:Str)==("?":Str))=false:=by
     rw[beq_eq_false_iff_ne]
     intro hh
     have:=congrArg (fun s:Str=>s.cps.toList) hh
     have h2:[d]=[63]:=this
     exact h63 (List.cons.inj h2).1
    refine Dk (Aj (Ao (Af rfl) Ae (Ay (hd d (by omega)) (by decide +kernel)))) hne ?_
    rw[Ax2 d (by omega) hc h63]
    exact Av
  .refine Nf (Bh ((Al (Af rfl) (Al (Al (Af rfl) Ae Cm) (Al (Af rfl) Ae Cm) (Gs ?_)) Cm).cast ?_)) Av
   .rw[Bool.or_eq_true]
    refine .inr ?_
    have h2:small (((x+1:Nat):Nat):Int)=true:=O5 (by unfold big at hz;omega)
    rw[Int.zero_add]
    exact h2
   .rw[Int.zero_add]
 .have hc:∃a b c,Vb z (List.range z.length)=[some (.str z),some (.str Ma),some (.int (M2.chk z.cps.toList)),a,b,c]:=by
   unfold Vb M2.chk
   rw[List.length_range,hsz]
   cases z.length with
   |zero=>exact⟨_,_,_,rfl⟩
   |succ j=>exact⟨_,_,_,rfl⟩
  obtain⟨a,b,c,hc⟩:=hc
  rw[hc]
  apply Bm
  apply Bf
  exact Ai (Ab (Al (Af rfl) Ae (Cp (by decide))) (Ab Ae Ag)) (X8 (by omega))
end
def Bbg:List ((De->M W)×(De->M W)):=[((kF (.str "head")),(kF (.str "h"))),((kF (.str "leaf")),(kF (.str "l"))),((kF (.str "fork")),(kF (.str "f"))),((kF (.str "rest")),(kF (.str "r"))),((kF (.str "free")),(kF (.str "e")))]
def Acj:List (Key×W):=[(.inr "head",.str "h"),(.inr "leaf",.str "l"),(.inr "fork",.str "f"),(.inr "rest",.str "r"),(.inr "free",.str "e")]
theorem Ax3 (p:Pg):Afx Acj (.inr p.word)=some (.str p.letter):=by
 cases p <;> rfl
theorem Aah {p:Pg} {size:Int} (hb:(p.body.length:Int)≤size - 5):p.start ++ Txt.mul ⟨#[48]⟩ (size - 2 - p.start.length)=p.unch size:=by
 have hs:=Ud p
 unfold Pg.unch Txt.ljustF
 have e:(Txt.mul ⟨#[48]⟩ (size - 2 - p.start.length)).cps=Array.replicate (size - 2 - p.start.length).toNat 48:=by
  apply Array.ext'
  rw[mul_one_list,Array.toList_replicate]
 split
 .have:(size - 2 - (p.start.length:Int)).toNat=0:=by omega
  show (⟨p.start.cps ++ (Txt.mul ⟨#[48]⟩ (size - 2 - p.start.length)).cps⟩:Str)=p.start
  rw[e,this]
  simp
 .show (⟨p.start.cps ++ (Txt.mul ⟨#[48]⟩ (size - 2 - p.start.length)).cps⟩:Str)=⟨Array.replicate 0 48 ++ p.start.cps ++ Array.replicate ((size - 2).toNat - p.start.length) 48⟩
  rw[e,show (size - 2 - (p.start.length:Int)).toNat=(size - 2).toNat - p.start.length by omega]
  simp
section
variable {P:SP} {ns:List Int}
theorem Ax4 {δ:De} {p:Pg} (h:Pu P (ixF ns (Ac 0) (kF (.int 0)) δ) (.str p.word)):Pu P (ixF ns (Nk Bbg) (ixF ns (Ac 0) (kF (.int 0))) δ) (.str p.letter):=fun S hS=>by
 have e1:Nk Bbg δ S=.ok (.ref S.length) (S ++ [.dct Acj]):=by
  have:Jj [] Acj=Acj:=by kernel_rfl
  show R.ok (W.ref S.length) (S ++ [Cell.dct (Jj [] Acj)])=_
  rw[this]
 obtain⟨G,e2⟩:=h (S ++ [.dct Acj]) (P.st _ _ hS)
 refine⟨[.dct Acj] ++ G,?_⟩
 unfold ixF
 rw[Br,e1]
 dsimp only
 unfold ixF at e2
 rw[Br,e2]
 dsimp only
 have hn:(S ++ [Cell.dct Acj] ++ G)[S.length]?=some (.dct Acj):=by
  rw[List.getElem?_append_left (by simp),List.getElem?_append_right (Nat.le_refl _),Nat.sub_self]
  rfl
 unfold ixW
 dsimp only
 rw[hn]
 dsimp only[Wr]
 rw[Ax3,List.append_assoc]
 rfl
theorem Yb {p:Pg} {size:Int} (h:p.ok) (h1:64≤size) (h2:size≤200) (hb:(p.body.length:Int)≤size - 5):Pu P (Gu ns [p.w,.int size]) (.str (p.text size)):=by
 obtain⟨ws,ew⟩:=Acg p
 have hbb:p.body.length≤195:=by omega
 have hs:=Ud p
 have hu:(p.unch size).length≤big:=by rw[Oq hb];exact Nat.le_trans (show (size - 2).toNat≤200 by omega) (by decide)
 have hw:=Kg (P:=P) (ns:=ns) h
 rw[ew] at hw
 rw[ew]
 apply Bq (ws:=[.tup (.str p.word::ws),.int size]) rfl
 refine Ca (Bh (Ai (Ab (Af rfl) Ag) hw)) ?_
 refine Ca (Bh (Ax4 (p:=p) (Aw (Af rfl) Ae (Aq ix0)))) ?_
 refine Ca (Bh (w:=.str p.start) ?_) ?_
 .refine Al (Al (Af rfl) (Ai (Ab (Ai (Ab (Af rfl) Ag) (len_str (Nat.le_trans hbb (by decide)))) (Ab Ae Ag)) (X8 (by omega))) (Bs ?_)) (Af rfl) (Bs ?_)
  .rw[Kf,Bj];decide
  .rw[len_app,Kf,Bj]
   exact Nat.le_trans (Nat.add_le_add_left hbb _) (by decide)
 refine Ca (Bh (w:=.str (p.unch size)) ?_) ?_
 .refine Pu.cast (Al (Af rfl) (Al Ae (Al (Al (Af rfl) Ae Gr) (Ai (Ab (Af rfl) Ag) (len_str (show p.start.length≤big from by rw[hs];exact Nat.le_trans (Nat.add_le_add_left hbb 3) (by decide)))) Gr) (Kp (a:=W.str (Txt.mul ⟨#[48]⟩ (size - 2 - p.start.length))) ?_ Pu.pure)) (Bs ?_)) ?_
  .rw[Bool.and_eq_true,Bool.and_eq_true,decide_eq_true_eq,decide_eq_true_eq,decide_eq_true_eq]
   refine⟨⟨by decide,?_⟩,?_⟩ <;> omega
  .rw[←len_app,Aah hb]
   exact hu
  .rw[Aah hb]
 apply Bm
 apply Bf
 exact Al (Af rfl) (Ai (Ab (Af rfl) Ag) (Ako hu (Aif h size))) (Bs (by
  rw[Ue,Oq hb]
  exact Nat.le_trans (show (size - 2).toNat+2≤400 by omega) (by decide)))
end
section
variable {P:SP} {ns:List Int}
theorem Ag0 {n:Int} (h:Eu n 0=true):decide (0 < n)=!(n==0):=by
 have:=Gp h (by decide)
 by_cases h0:n=0
 .subst h0;rfl
 .rw[decide_eq_true (by omega),show (n==0)=false from beq_eq_false_iff_ne.mpr h0];rfl
theorem Aey {ps:List Int} (h:∀p∈ps,Eu p 1=true):ps.filter (fun n=>!(n==0))=ps:=List.filter_eq_self.mpr fun p hp=>by
 have:=h p hp
 unfold Eu at this
 simp only[Bool.and_eq_true,decide_eq_true_eq] at this
 rw[show (p==0)=false from beq_eq_false_iff_ne.mpr (by omega)]
 rfl
theorem Aol {rs:List (Str×Cl)} (h:∀r∈rs,isKey r.1=true∧r.2.ok=true):∀p∈outs rs,Eu p 1=true:=fun p hp=>by
 unfold outs at hp
 obtain⟨r,hr,e⟩:=List.mem_filterMap.mp hp
 have h2:=(h r hr).2
 obtain⟨k,c⟩:=r
 cases c with
 |inn t=>cases e
 |out m q=>
  have e:q=p:=Option.some.inj e
  subst e
  unfold Cl.ok at h2
  rw[Bool.and_eq_true] at h2
  exact h2.2
theorem Akp {p:Pg} (h:p.ok):PuL P (My ns [p.w]) (p.leads.map W.int):=by
 apply Ah7 (us:=[p.w]) rfl
 cases p with
 |head a b c d=>
  obtain⟨h1,h2,h3,h4⟩:=h
  apply Js
  refine Agd (Aj (Ao (Aw (Af rfl) Ae (Aq rfl)) Ae (Ay (by decide +kernel) (by decide +kernel)))) (by decide +kernel) (Js (Sx ?_))
  exact An0 (P:=P) (xs:=[a,d]) (φ:=W.int) (ψ:=W.int) (τ:=fun n=>!(n==0)) (s:=Cr 0) (t:=Az (Bc .Gt (Ac 0) (kF (.int 0)))) (e:=Ac 0) (k:=1) (cap:=[]) (δ:=Bp 1 [Pg.w (.head a b c d)]) (Asn (Jr (Ab (Aw (Af rfl) Ae (Aq rfl)) (Ab (Aw (Af rfl) Ae (Aq rfl)) Ag)) (show 2≤big by decide))) Ra
   (fun m hm=>⟨(Aj (Ao (Af rfl) Ae Ln)).cast (Ag0 (by
    simp only[List.mem_cons,List.not_mem_nil,or_false] at hm
    rcases hm with rfl|rfl <;> assumption)),fun _=>Af rfl⟩) ⟨none,rfl⟩ (show 2≤big by decide)
 |leaf rs=>
  apply Ky
  .exact Dk (Aj (Ao (Aw (Af rfl) Ae (Aq rfl)) Ae (Ay (by decide +kernel) (by decide +kernel)))) (by decide +kernel) Av
  apply Js
  refine Agd (Aj (Ao (Aw (Af rfl) Ae (Aq rfl)) Ae (Ay (by decide +kernel) (by decide +kernel)))) (by decide +kernel) (Js (Sx ?_))
  have hh:=Vt (P:=P) (xs:=rs) (φ:=Km) (ψ:=fun r=>W.int (Ax1 r)) (τ:=Aih) (s:=Q5 [0,1]) (t:=Az (Bc .Eq (ixF ns (Ac 1) (kF (.int 0))) (kF (.str "out")))) (e:=ixF ns (Ac 1) (kF (.int 2))) (k:=2) (cap:=[]) (δ:=Bp 1 [Pg.w (.leaf rs)]) (src:=Eh ns (ixF ns (Ac 0) (kF (.int 1)))) (Ey (Aw (Af rfl) Ae (Aq rfl))) (Abo (a:=fun(r:Str×Cl)=>W.str r.1) (b:=fun(r:Str×Cl)=>r.2.w)) (fun r hr=>by
   obtain⟨k,c⟩:=r
   cases c with
   |inn t=>exact⟨(Aj (Ao (Aw (Af rfl) Ae (Aq rfl)) Ae (Ay (by decide +kernel) (by decide +kernel)))).cast (by decide +kernel:(Str.ofString "in"==Str.ofString "out")=false),fun z=>by cases z⟩
   |out n p=>exact⟨(Aj (Ao (Aw (Af rfl) Ae (Aq rfl)) Ae (Ay (by decide +kernel) (by decide +kernel)))).cast (by decide +kernel:(Str.ofString "out"==Str.ofString "out")=true),fun _=>Aw (Af rfl) Ae (Aq rfl)⟩) ⟨none,none,rfl⟩ (Nat.le_trans h.1 (by decide))
  rw[Aii] at hh
  have e:(Pg.leads (.leaf rs))=outs rs:=Aey (Aol h.2.1)
  rw[e]
  exact hh
 |fork ks ps=>
  apply Ky
  .exact Dk (Aj (Ao (Aw (Af rfl) Ae (Aq rfl)) Ae (Ay (by decide +kernel) (by decide +kernel)))) (by decide +kernel) Av
  apply Ky
  .exact Dk (Aj (Ao (Aw (Af rfl) Ae (Aq rfl)) Ae (Ay (by decide +kernel) (by decide +kernel)))) (by decide +kernel) Av
  apply Js
  refine Agd (Aj (Ao (Aw (Af rfl) Ae (Aq rfl)) Ae (Ay (by decide +kernel) (by decide +kernel)))) (by decide +kernel) (Js (Sx ?_))
  have e:(Pg.leads (.fork ks ps))=ps:=Aey h.2.2
  rw[e]
  exact Ad0 (Ab (Aw (Af rfl) Ae (Aq rfl)) Ag) (Ad3 (by rw[List.length_map];exact Nat.le_trans (Pg.ways_len (p:=.fork ks ps) h) (by decide)))
 |rest t n=>
  apply Ky
  .exact Dk (Aj (Ao (Aw (Af rfl) Ae (Aq rfl)) Ae (Ay (by decide +kernel) (by decide +kernel)))) (by decide +kernel) Av
  apply Ky
  .exact Dk (Aj (Ao (Aw (Af rfl) Ae (Aq rfl)) Ae (Ay (by decide +kernel) (by decide +kernel)))) (by decide +kernel) Av
  apply Ky
  .exact Dk (Aj (Ao (Aw (Af rfl) Ae (Aq rfl)) Ae (Ay (by decide +kernel) (by decide +kernel)))) (by decide +kernel) Av
  refine Js (Sx ?_)
  have ht:Pu P (Az (Bc .Gt (ixF ns (Ac 0) (Adn (kF (.int 1)))) (kF (.int 0))) (Bp 1 [Pg.w (.rest t n)])) (!(n==0)):=(Aj (Ao (Aw (Af rfl) (Ug Ae) (Aq (O6 (ws:=[.str "rest",.str t])))) Ae Ln)).cast (Ag0 h.2.2.2)
  cases hn:(n==0) with
  |true=>
   have e:Pg.leads (.rest t n)=[]:=by show [n].filter _=[];simp[hn]
   rw[e]
   exact Ad5 ht (by rw[hn];rfl) (Jr Ag (by decide))
  |false=>
   have e:Pg.leads (.rest t n)=[n]:=by show [n].filter _=[n];simp[hn]
   rw[e]
   exact Ad4 ht (by rw[hn];rfl) (Jr (Ab (Aw (Af rfl) (Ug Ae) (Aq (O6 (ws:=[.str "rest",.str t])))) Ag) (show 1≤big by decide))
 |free n=>
  apply Ky
  .exact Dk (Aj (Ao (Aw (Af rfl) Ae (Aq rfl)) Ae (Ay (by decide +kernel) (by decide +kernel)))) (by decide +kernel) Av
  apply Ky
  .exact Dk (Aj (Ao (Aw (Af rfl) Ae (Aq rfl)) Ae (Ay (by decide +kernel) (by decide +kernel)))) (by decide +kernel) Av
  apply Ky
  .exact Dk (Aj (Ao (Aw (Af rfl) Ae (Aq rfl)) Ae (Ay (by decide +kernel) (by decide +kernel)))) (by decide +kernel) Av
  refine Js (Sx ?_)
  have ht:Pu P (Az (Bc .Gt (ixF ns (Ac 0) (Adn (kF (.int 1)))) (kF (.int 0))) (Bp 1 [Pg.w (.free n)])) (!(n==0)):=(Aj (Ao (Aw (Af rfl) (Ug Ae) (Aq (O6 (ws:=[.str "free"])))) Ae Ln)).cast (Ag0 h)
  cases hn:(n==0) with
  |true=>
   have e:Pg.leads (.free n)=[]:=by show [n].filter _=[];simp[hn]
   rw[e]
   exact Ad5 ht (by rw[hn];rfl) (Jr Ag (by decide))
  |false=>
   have e:Pg.leads (.free n)=[n]:=by show [n].filter _=[n];simp[hn]
   rw[e]
   exact Ad4 ht (by rw[hn];rfl) (Jr (Ab (Aw (Af rfl) (Ug Ae) (Aq (O6 (ws:=[.str "free"])))) Ag) (show 1≤big by decide))
end
section
variable {P:SP} {ns:List Int}
theorem Aom {p:Pg} {w:W} (h:p.ok) (hw:Pu P (Lr ns [w]) (.bl false)):PuX P (Dq ns [p.w,w]) (3,.non):=by
 apply Ah3 (ws:=[p.w,w]) rfl
 refine Axu (Bh (Ai (Ab (Af rfl) Ag) (Lz h))) ?_
 apply Ah2
 exact Ba0 (Ef (Aj (Ai (Ab (Af rfl) Ag) hw))) rfl (Ah2 (Aj5 (Ab Ae Ag) (by decide)))
theorem Aon {w:W} (hw:w=.non∨w=.bl true):Pu P (Gb ns [w]) (.bl false):=by
 rcases hw with rfl|rfl <;> exact fun S _=>⟨[],by rw[List.append_nil];rfl⟩
theorem Ata {w:W} (hw:w=.int 63∨w=.int 201∨w=.non∨w=.bl true):Pu P (Lr ns [w]) (.bl false):=by
 rcases hw with rfl|rfl|hw
 .exact(Vy 63).cast rfl
 .exact(Vy 201).cast rfl
 .apply Bq (ws:=[w]) rfl
  apply Bm
  apply Bf
  exact Zo (Ai (Ab (Af rfl) Ag) (Aon hw))
def stD (k:Int):Cell:=.dct [(.inr "cells",.scr),(.inr "at",.int k)]
def cellAt (ns:List Int) (k:Int):Int:=if k < ns.length then (atI ns k).getD 0 else 0
def nxt (ns:List Int) (k:Int):Int:=(cellAt ns (k % (if (ns.length:Int) > 1 then (ns.length:Int) else 1)) * 48271+k * k * 69621) % 2147483647 / 8
theorem Aoo (ns:List Int) (k:Int):0≤nxt ns k:=by
 unfold nxt
 have:0≤(cellAt ns (k % (if (ns.length:Int) > 1 then (ns.length:Int) else 1)) * 48271+k * k * 69621) % 2147483647:=Int.emod_nonneg _ (by decide)
 omega
theorem Akq {k:Int} (h0:0≤k):Pu P (Hy ns [.scr,.int k]) (.int (cellAt ns k)):=by
 apply Bq (ws:=[.scr,.int k]) rfl
 have ht:Pu P (Az (Bc .Lt (Ac 1) (Ah (Cv ns) (Aa (Ac 0) nilF))) (Bp 2 [.scr,.int k])) (decide (k < ns.length)):=Aj (Ao (Af rfl) (Ai (Ab (Af rfl) Ag) Pu.pure) Zq)
 unfold cellAt
 by_cases hk:k < ns.length
 .rw[if_pos hk]
  apply Bm
  refine Nu ht (decide_eq_true hk) (Bm (Bf (Aw (Af rfl) (Af rfl) ?_)))
  obtain⟨v,hv⟩:∃v,atI ns k=some v:=by
   unfold atI ixN
   rw[if_pos h0,if_pos hk]
   exact⟨ns[k.toNat]'(by omega),List.getElem?_eq_getElem _⟩
  rw[hv]
  show Pu P (Aba ((atI ns k).map W.int)) _
  rw[hv]
  exact Pu.pure
 .rw[if_neg hk]
  exact Ca (Dk ht (decide_eq_false hk) Av) (Bm (Bf Ae))
end
def Ax5 (P:SP) (n:Nat) (c:Cell):SP:=⟨fun S=>P.p S∧S[n]?=some c,fun S G h=>⟨P.st S G h.1,by rw[List.getElem?_append_left (List.getElem?_eq_some_iff.mp h.2).1];exact h.2⟩⟩
section
variable {P:SP} {ns:List Int} {n:Nat} {k:Int}
theorem Aez {δ:De} {S:Store} (h:δ[0]?=some (some (.ref n))) (hS:S[n]?=some (stD k)):ixF ns (Ac 0) (kF (.str "at")) δ S=.ok (.int k) S:=by
 have hv:Ac 0 δ S=.ok (.ref n) S:=by unfold Ac;rw[h];rfl
 unfold ixF
 rw[Br,hv]
 show ixW ns (.ref n) (.str "at") S=_
 unfold ixW
 dsimp only
 rw[hS]
 rfl
theorem Bbh {δ:De} (h:δ[0]?=some (some (.ref n))):Pu (Ax5 P n (stD k)) (ixF ns (Ac 0) (kF (.str "at")) δ) (.int k):=fun S hS=>⟨[],by rw[Aez h hS.2,List.append_nil]⟩
theorem Ae0 {δ:De} (h:δ[0]?=some (some (.ref n))):Pu (Ax5 P n (stD k)) (ixF ns (Ac 0) (kF (.str "cells")) δ) .scr:=fun S hS=>⟨[],by
 have hv:Ac 0 δ S=.ok (.ref n) S:=by unfold Ac;rw[h];rfl
 unfold ixF
 rw[Br,hv]
 show ixW ns (.ref n) (.str "cells") S=_
 unfold ixW
 dsimp only
 rw[hS.2,List.append_nil]
 rfl⟩
theorem Aij {S:Store} (h:S[n]?=some (stD k)) (h0:0≤k) (h1:k < 1000000):∃G,Bv ns [.ref n] S=.ok (.int (nxt ns (k+1))) (S.set n (stD (k+1)) ++ G):=by
 have hd:Wy (Ac 0) (kF (.str "at")) (Ar .add (ixF ns (Ac 0) (kF (.str "at"))) (kF (.int 1))) (Bp 3 [.ref n]) S=.nx (Bp 3 [.ref n]) (S.set n (stD (k+1))):=by
  have hb:Ar .add (ixF ns (Ac 0) (kF (.str "at"))) (kF (.int 1)) (Bp 3 [.ref n]) S=.ok (.int (k+1)) S:=by
   unfold Ar
   rw[Br,Aez rfl h]
   rfl
  have hs:Zj (.ref n) (.str "at") (.int (k+1)) S=.ok () (S.set n (stD (k+1))):=by
   unfold Zj
   dsimp only
   rw[h]
   rfl
  unfold Wy El
  rw[Br,hb]
  dsimp only
  rw[Br,show Ac 0 (Bp 3 [.ref n]) S=.ok (.ref n) S from rfl]
  dsimp only
  rw[Br,show kF (.str "at") (Bp 3 [.ref n]) S=.ok (.str "at") S from rfl]
  dsimp only
  rw[hs]
 have hr:PuR (Ax5 SP.any n (stD (k+1))) (Ak (Bx 1 (ixF ns (Ac 0) (kF (.str "at")))) (Ak (Bx 2 (Ah (Hy ns) (Aa (ixF ns (Ac 0) (kF (.str "cells"))) (Aa (Ar .mod (Ac 1) (Ah Aq4 (Aa (kF (.int 1)) (Aa (Ah (Cv ns) (Aa (ixF ns (Ac 0) (kF (.str "cells"))) nilF)) nilF)))) nilF)))) (Ak (retS (Ar .fdiv (Ar .mod (Ar .add (Ar .mul (Ac 2) (kF (.int 48271))) (Ar .mul (Ar .mul (Ac 1) (Ac 1)) (kF (.int 69621)))) (kF (.int 2147483647))) (kF (.int 8)))) Am))) (Bp 3 [.ref n]) (.int (nxt ns (k+1))):=by
  have hsm:small (k+1)=true:=by
   have:=O5 (k:=(k+1).toNat) (by omega)
   rw[Int.toNat_of_nonneg (by omega)] at this
   exact this
  have hpos:0 < (if (ns.length:Int) > 1 then (ns.length:Int) else 1):=by split <;> omega
  refine Ca (Bh (Bbh rfl)) ?_
  refine Ca (Bh (Ai (Ab (Ae0 rfl) (Ab (Al (Af rfl) (Ai (Ab Ae (Ab (Ai (Ab (Ae0 rfl) Ag) Pu.pure) Ag)) Pu.pure) (Cp hpos)) Ag)) (Akq (Int.emod_nonneg _ (by omega))))) ?_
  refine Bm (Bf ?_)
  refine Pu.cast (Al (Al (Al (Al (Af rfl) Ae (Gs (by rw[show small 48271=true by decide +kernel,Bool.or_true]))) (Al (Al (Af rfl) (Af rfl) (Gs (by rw[hsm];rfl))) Ae (Gs (by rw[show small 69621=true by decide +kernel,Bool.or_true]))) Cm) Ae (Cp (j:=2147483647) (by decide))) Ae (Di (j:=8) (by decide) (by decide))) ?_
  unfold nxt
  rfl
 obtain⟨G,e⟩:=hr (S.set n (stD (k+1))) ⟨trivial,by rw[List.getElem?_set_self (List.getElem?_eq_some_iff.mp h).1]⟩
 refine⟨G,?_⟩
 unfold Bv Df Og
 rw[if_pos (show [W.ref n].length=1 from rfl)]
 unfold Ak at e ⊢
 rw[hd]
 dsimp only
 rw[e]
end
def Yw:Str:=(" !\"#$&'()*+,-./:;<=>?\x40[\\]^_`{|}~":Str) ++ ("0123456789abcdefghijklmnopqrstuvwxyzABCDEFGHIJKLMNOPQRSTUVWXYZ":Str)
theorem Kh:Yw.length=94:=by decide +kernel
theorem Atb:M2.Ea Yw=true:=by decide +kernel
def sgnN (i:Int):Nat:=Yw.cps.toList.getD i.toNat 0
def ltN (n:Int) (k:Nat):Int:=(n / 7+13 * (0+(k:Int)) * (0+(k:Int))+5 * (0+(k:Int))) % 94
def lawT (n:Int) (size:Nat):Str:=jn ((List.range size).map fun k=>(⟨#[sgnN (ltN n k)]⟩:Str))
theorem Aik {i:Int} (h0:0≤i) (h:i < 94):M2.okC (sgnN i)=true:=M2.Aib (l:=Yw.cps.toList) Atb (by rw[Array.length_toList];show i.toNat < Yw.length;rw[Kh];omega)
theorem Aai (n:Int) (k:Nat):0≤ltN n k∧ltN n k < 94:=by unfold ltN;omega
theorem Ack (n:Int) (size:Nat):M2.Ea (lawT n size)=true:=Aew fun y hy=>by
 obtain⟨k,_,rfl⟩:=List.mem_map.mp hy
 have:=Aai n k
 exact(Agz _).trans (Aik this.1 this.2)
theorem Ot (n:Int) (size:Nat):(lawT n size).length=size:=by
 unfold lawT
 rw[Ub,List.map_map]
 have:∀l:List Nat,(l.map ((fun x:Str=>x.length) ∘ fun k=>(⟨#[sgnN (ltN n k)]⟩:Str))).sum=l.length:=by
  intro l
  induction l with
  |nil=>rfl
  |cons a l ih=>
   rw[List.map_cons,List.sum_cons,ih,List.length_cons]
   show 1+_=_
   omega
 rw[this,List.length_range]
section
variable {P:SP} {ns:List Int}
theorem Ae1:Pu P (Jw ns []) (.str Yw):=by
 apply Bq (ws:=[]) rfl
 refine Ca (Bh Ae) (Bm (Bf ?_))
 exact Al Ae (Af rfl) (Bs (by decide +kernel))
theorem Aop {i:Int} (h0:0≤i) (h:i < 94):Pu P (ixW ns (.str Yw) (.int i)) (.str ⟨#[sgnN i]⟩):=by
 have:=Aan (P:=P) (ns:=ns) (z:=Yw) (j:=i.toNat) (by rw[Kh];decide) (by rw[Kh];omega)
 rw[Int.zero_add,Int.toNat_of_nonneg h0] at this
 exact this
theorem Aaj {i:Int} (h0:0≤i) (h1:i≤1000000):small i=true:=by
 have:=O5 (k:=i.toNat) (by omega)
 rw[Int.toNat_of_nonneg h0] at this
 exact this
theorem Acl {n:Int} {size:Nat} (hs:size≤1000):Pu P (Jg ns [.int n,.int (size:Int)]) (.str (lawT n size)):=by
 apply Bq (ws:=[.int n,.int (size:Int)]) rfl
 refine Ca (Bh (Ai Ag Ae1)) ?_
 refine Ca (Bh (w:=.int 94) ((Ai (Ab (Af rfl) Ag) (len_str (by rw[Kh];decide))).cast (by rw[Kh];rfl))) ?_
 refine Bm (Bf ?_)
 refine Rx (c:=1) ?_ (fun y hy=>?_) (by rw[List.length_map,List.length_range];exact Nat.le_trans (Nat.mul_le_mul_right 1 hs) (by decide))
 .have h:=Fl (P:=P) (xs:=List.range size) (φ:=fun(k:Nat)=>W.int ((0:Int)+(k:Int))) (ψ:=fun k=>W.str ⟨#[sgnN (ltN n k)]⟩) (t:=fun _=>pure true) (e:=ixF ns (Ac 3) (Ar .mod (Ar .add (Ar .add (Ar .fdiv (Ac 2) (kF (.int 7))) (Ar .mul (Ar .mul (kF (.int 13)) (Ac 0)) (Ac 0))) (Ar .mul (kF (.int 5)) (Ac 0))) (Ac 1))) (cs:=[some (.int 94),some (.int n),some (.str Yw)]) (cap:=[3,0,2]) (δ:=((Bp 4 [.int n,.int (size:Int)]).set 2 (some (.str Yw))).set 3 (some (.int 94))) (src:=Lh Hq (Aa (Ac 1) nilF))
   (Hc (Ab (Af rfl) Ag) (Nat.le_trans hs (by decide))) rfl (by rw[List.length_range];exact Nat.le_trans hs (by decide)) (fun k hk=>by
    have hk:k < size:=List.mem_range.mp hk
    have hr:=Aai n k
    have hsm:small (0+(k:Int))=true:=Aaj (by omega) (by omega)
    exact⟨Pu.pure,Aw (Af rfl) (Al (Al (Al (Al (Af rfl) Ae (Di (j:=7) (by decide) (by decide))) (Al (Al Ae (Af rfl) (Gs (by rw[hsm,Bool.or_true]))) (Af rfl) (Gs (by rw[hsm,Bool.or_true]))) Cm) (Al Ae (Af rfl) (Gs (by rw[hsm,Bool.or_true]))) Cm) (Af rfl) (Cp (j:=94) (by decide))) (Aop hr.1 hr.2)⟩)
  rw[List.map_map]
  exact h
 .obtain⟨k,_,rfl⟩:=List.mem_map.mp hy
  exact Nat.le_refl 1
end
def Sf {α:Type} (n:Nat) (d:Nat) (m:M α) (Q:α->Prop):Prop:=∀(k:Int) (S:Store),0≤k->k+d≤900000->S[n]?=some (stD k)->∃(a:α) (k':Int) (G:Store),m S=.ok a (S.set n (stD k') ++ G)∧k≤k'∧k'≤k+d∧Q a
section
variable {α β:Type} {n d d1 d2:Nat} {m:M α} {f:α->M β} {Q:α->Prop} {R':β->Prop} {ns:List Int}
theorem Ail {S G:Store} {c c':Cell} (h:n < S.length):(S.set n c ++ G).set n c'=S.set n c' ++ G:=by
 rw[List.set_append_left _ _ (by rw[List.length_set];exact h),List.set_set]
theorem Sf.bind (h1:Sf n d1 m Q) (h2:∀a,Q a->Sf n d2 (f a) R'):Sf n (d1+d2) (m >>= f) R':=fun k S h0 hd hS=>by
 have hl:n < S.length:=(List.getElem?_eq_some_iff.mp hS).1
 obtain⟨a,k1,G1,e1,q1,q2,qa⟩:=h1 k S h0 (by omega) hS
 have hS1:(S.set n (stD k1) ++ G1)[n]?=some (stD k1):=by
  rw[List.getElem?_append_left (by rw[List.length_set];exact hl),List.getElem?_set_self hl]
 obtain⟨b,k2,G2,e2,r1,r2,rb⟩:=h2 a qa k1 (S.set n (stD k1) ++ G1) (by omega) (by omega) hS1
 refine⟨b,k2,G1 ++ G2,?_,by omega,by omega,rb⟩
 rw[Br,e1]
 dsimp only
 rw[e2,Ail hl,List.append_assoc]
theorem Sf.of_pu {a:α} (h:Pu SP.any m a) (q:Q a):Sf n 0 m Q:=fun k S _ _ hS=>by
 obtain⟨G,e⟩:=h S trivial
 refine⟨a,k,G,?_,Int.le_refl _,by omega,q⟩
 have:S.set n (stD k)=S:=by
  have hl:n < S.length:=(List.getElem?_eq_some_iff.mp hS).1
  apply List.ext_getElem?
  intro i
  by_cases hi:i=n
  .subst hi;rw[List.getElem?_set_self hl,hS]
  .rw[List.getElem?_set_ne (Ne.symm hi)]
 rw[e,this]
theorem Sf.mono {Q':α->Prop} (h:Sf n d1 m Q) (hd:d1≤d2) (hq:∀a,Q a->Q' a):Sf n d2 m Q':=fun k S h0 hk hS=>by
 obtain⟨a,k1,G,e,q1,q2,qa⟩:=h k S h0 (by omega) hS
 exact⟨a,k1,G,e,q1,by omega,hq a qa⟩
theorem Atc:Sf n 1 (Bv ns [.ref n]) (fun w=>∃i,w=.int i∧0≤i):=fun k S h0 hk hS=>by
 obtain⟨G,e⟩:=Aij (ns:=ns) hS h0 (by omega)
 exact⟨_,k+1,G,e,by omega,by omega,_,rfl,Aoo ns (k+1)⟩
end
inductive En where
 |nx (δ:De)
 |rt (w:W)
def SfS (n d:Nat) (b:MS) (δ:De) (Q:En->Prop):Prop:=∀(k:Int) (S:Store),0≤k->k+d≤900000->S[n]?=some (stD k)->∃(x:En) (k':Int) (G:Store),b δ S=(match x with|.nx δ'=>.nx δ' (S.set n (stD k') ++ G)|.rt w=>.rt w (S.set n (stD k') ++ G))∧k≤k'∧k'≤k+d∧Q x
section
variable {n d d1 d2:Nat} {b b':MS} {δ:De} {Q Q':En->Prop} {f:De->M W} {i kk nn:Nat} {R':W->Prop} {ws:List W}
theorem Atd (h:Sf n d (f δ) R') (q:∀w,R' w->Q (.nx (δ.set i (some w)))):SfS n d (Bx i f) δ Q:=fun k S h0 hd hS=>by
 obtain⟨a,k1,G,e,q1,q2,qa⟩:=h k S h0 hd hS
 exact⟨.nx (δ.set i (some a)),k1,G,by unfold Bx El;rw[e],q1,q2,q a qa⟩
theorem Aim (h:Sf n d (f δ) R') (q:∀w,R' w->Q (.rt w)):SfS n d (retS f) δ Q:=fun k S h0 hd hS=>by
 obtain⟨a,k1,G,e,q1,q2,qa⟩:=h k S h0 hd hS
 exact⟨.rt a,k1,G,by unfold retS El;rw[e],q1,q2,q a qa⟩
theorem V0 (h1:SfS n d1 b δ Q') (h2:∀δ',Q' (.nx δ')->SfS n d2 b' δ' Q) (h3:∀w,Q' (.rt w)->Q (.rt w)):SfS n (d1+d2) (Ak b b') δ Q:=fun k S h0 hd hS=>by
 have hl:n < S.length:=(List.getElem?_eq_some_iff.mp hS).1
 obtain⟨x,k1,G1,e1,q1,q2,qa⟩:=h1 k S h0 (by omega) hS
 cases x with
 |rt w=>exact⟨.rt w,k1,G1,by unfold Ak;rw[e1],q1,by omega,h3 w qa⟩
 |nx δ1=>
  have hS1:(S.set n (stD k1) ++ G1)[n]?=some (stD k1):=by
   rw[List.getElem?_append_left (by rw[List.length_set];exact hl),List.getElem?_set_self hl]
  obtain⟨y,k2,G2,e2,r1,r2,rb⟩:=h2 δ1 qa k1 (S.set n (stD k1) ++ G1) (by omega) (by omega) hS1
  refine⟨y,k2,G1 ++ G2,?_,by omega,by omega,rb⟩
  unfold Ak
  rw[e1]
  dsimp only
  rw[e2]
  cases y <;> simp only[Ail hl,List.append_assoc]
theorem Ax6 (hl:ws.length=kk) (h:SfS n d b (Bp nn ws) (fun x=>∃w,x=.rt w∧R' w)):Sf n d (Df kk nn b ws) R':=fun k S h0 hd hS=>by
 obtain⟨x,k1,G,e,q1,q2,w,rfl,qw⟩:=h k S h0 hd hS
 exact⟨w,k1,G,by unfold Df;rw[if_pos hl,e],q1,q2,qw⟩
end
section
variable {P:SP} {ns:List Int}
theorem Uh {δ:De} {gs:De->M (List W)} {g:De->M W} {ws:List W} {i:Int} {w:W} (h1:Pu P (gs δ) ws) (hl:ws.length≤big) (h2:Pu P (g δ) (.int i)) (hi:atI ws i=some w):Pu P (ixF ns (Jo gs) g δ) w:=fun S hS=>by
 obtain⟨G,n,e,hn,_⟩:=Jr h1 hl S hS
 obtain⟨G2,e2⟩:=h2 (S ++ G) (P.st _ _ hS)
 refine⟨G ++ G2,?_⟩
 unfold ixF
 rw[Br,e]
 dsimp only
 rw[Br,e2]
 dsimp only
 have hn2:(S ++ G ++ G2)[n]?=some (.lst ws):=by rw[List.getElem?_append_left (List.getElem?_eq_some_iff.mp hn).1];exact hn
 unfold ixW
 dsimp only
 rw[hn2]
 dsimp only
 rw[hi,List.append_assoc]
 rfl
variable {n d:Nat} {b b':MS} {δ:De} {Q:En->Prop} {t:De->M Bool} {p:Bool}
theorem Aoq (q:Q (.nx δ)):SfS n 0 Am δ Q:=fun k S _ _ hS=>by
 obtain⟨a,k1,G,e,q1,q2,_⟩:=Sf.of_pu (n:=n) (m:=(pure ():M Unit)) (a:=()) (Q:=fun _=>True) Pu.pure trivial k S ‹_› (by omega) hS
 have e:R.ok () S=R.ok a (S.set n (stD k1) ++ G):=e
 have e2:S=S.set n (stD k1) ++ G:=by injection e
 exact⟨.nx δ,k1,G,by show RS.nx δ S=RS.nx δ _;rw[←e2],q1,by omega,q⟩
theorem Ax7 (h1:Pu SP.any (t δ) p) (h2:p=true->SfS n d b δ Q) (h3:p=false->SfS n d b' δ Q):SfS n d (ifS t b b') δ Q:=fun k S h0 hd hS=>by
 have hl:n < S.length:=(List.getElem?_eq_some_iff.mp hS).1
 obtain⟨G,e⟩:=h1 S trivial
 have hS1:(S ++ G)[n]?=some (stD k):=by rw[List.getElem?_append_left hl];exact hS
 have fin:∀{c:MS},SfS n d c δ Q->ifS t b b' δ S=c δ (S ++ G)->∃(x:En) (k':Int) (G:Store),ifS t b b' δ S=(match x with|.nx δ'=>.nx δ' (S.set n (stD k') ++ G)|.rt w=>.rt w (S.set n (stD k') ++ G))∧k≤k'∧k'≤k+d∧Q x:=fun {c} hc ec=>by
  obtain⟨x,k1,G2,e1,q1,q2,qx⟩:=hc k (S ++ G) h0 hd hS1
  refine⟨x,k1,G ++ G2,?_,q1,q2,qx⟩
  rw[ec,e1]
  cases x <;> simp only[List.set_append_left _ _ hl,List.append_assoc]
 cases p with
 |true=>exact fin (h2 rfl) (by unfold ifS El;rw[e];rfl)
 |false=>exact fin (h3 rfl) (by unfold ifS El;rw[e];rfl)
theorem Ate {s:List W->M W} {gs:De->M (List W)} {ws:List W} {R':W->Prop} (h1:Pu SP.any (gs δ) ws) (h2:Sf n d (s ws) R'):Sf n d (Ah s gs δ) R':=
 (Sf.bind (Sf.of_pu (Q:=fun a=>a=ws) h1 rfl) (fun a e=>by subst e;exact h2)).mono (by omega) fun _ q=>q
theorem Bcz {size:Int} (h1:64≤size) (h2:size≤200):8≤size / 8∧size / 8≤25:=by omega
theorem Atf {size:Int} (h1:64≤size) (h2:size≤200):Sf n 1 (Ks ns [.ref n,.int size]) (fun w=>∃c:Cl,c.ok=true∧w=c.w):=by
 apply Ax6 (ws:=[.ref n,.int size]) rfl
 refine V0 (d1:=1) (d2:=0) (Q':=fun x=>∃i,x=.nx ((Bp 3 [.ref n,.int size]).set 2 (some (.int i)))∧0≤i) (Atd (Ate (Ab (Af rfl) Ag) Atc) (fun w ⟨i,e,hi⟩=>⟨i,by rw[e],hi⟩)) (fun δ' ⟨i,e,hi⟩=>?_) (fun w ⟨i,e,hi⟩=>by cases e)
 have e:δ'=[some (.ref n),some (.int size),some (.int i)]:=by injection e
 subst e
 have ht:Pu SP.any (Az (Bc .Eq (Ar .mod (Ac 2) (kF (.int 3))) (kF (.int 0))) [some (.ref n),some (.int size),some (.int i)]) (i % 3==0):=Aj (Ao (Al (Af rfl) Ae (Cp (j:=3) (by decide))) Ae J5)
 refine V0 (d1:=0) (d2:=0) (Q':=fun x=>(∃w,x=.rt w∧∃c:Cl,c.ok=true∧w=c.w)∨x=.nx [some (.ref n),some (.int size),some (.int i)]) (Ax7 ht (fun _=>?_) (fun _=>Aoq (.inr rfl))) (fun δ' h=>?_) (fun w h=>?_)
 .refine V0 (d1:=0) (d2:=0) (Q':=fun x=>∃w,x=.rt w∧∃c:Cl,c.ok=true∧w=c.w) (Aim (R':=fun w=>∃c:Cl,c.ok=true∧w=c.w) (Sf.of_pu (a:=Cl.w (.out (1+i / 3 % 400) (1+i / 1200 % 4095))) ?_ ⟨_,?_,rfl⟩) (fun w h=>⟨w,rfl,h⟩)) (fun δ' h=>by obtain⟨w,e,_⟩:=h;cases e) (fun w h=>.inl h)
  .exact Kw (Ab Ae (Ab (Al Ae (Al (Al (Af rfl) Ae (Di (j:=3) (by decide) (by decide))) Ae (Cp (j:=400) (by decide))) Cm) (Ab (Al Ae (Al (Al (Af rfl) Ae (Di (j:=1200) (by decide) (by decide))) Ae (Cp (j:=4095) (by decide))) Cm) Ag))) (by show 3≤big;decide)
  .unfold Cl.ok Eu
   simp only[Bool.and_eq_true,decide_eq_true_eq]
   omega
 .rcases h with ⟨w,e,_⟩|e
  .cases e
  have e:δ'=[some (.ref n),some (.int size),some (.int i)]:=by injection e
  subst e
  have d8:=Bcz h1 h2
  have hm:0≤i / 30 % (size / 8+1)∧i / 30 % (size / 8+1) < size / 8+1:=⟨Int.emod_nonneg _ (by omega),Int.emod_lt_of_pos _ (by omega)⟩
  obtain⟨L,hL,hL1,hL2⟩:∃L:Int,atI [W.int 0,.int 1,.int (size / 8),.int (i / 30 % (size / 8+1))] (i / 3 % 4)=some (.int L)∧0≤L∧L≤25:=by
   have h4:i / 3 % 4=0∨i / 3 % 4=1∨i / 3 % 4=2∨i / 3 % 4=3:=by omega
   rcases h4 with h|h|h|h <;> rw[h]
   .exact⟨0,rfl,by omega,by omega⟩
   .exact⟨1,rfl,by omega,by omega⟩
   .exact⟨_,rfl,by omega,by omega⟩
   .exact⟨_,rfl,by omega,by omega⟩
  refine V0 (d1:=0) (d2:=0) (Q':=fun x=>∃w,x=.rt w∧∃c:Cl,c.ok=true∧w=c.w) (Aim (R':=fun w=>∃c:Cl,c.ok=true∧w=c.w) (Sf.of_pu (a:=Cl.w (.inn (lawT i L.toNat))) ?_ ⟨_,?_,rfl⟩) (fun w h=>⟨w,rfl,h⟩)) (fun δ' h=>by obtain⟨w,e,_⟩:=h;cases e) (fun w h=>h)
  .have hT:=Acl (P:=SP.any) (ns:=ns) (n:=i) (size:=L.toNat) (by omega)
   rw[Int.toNat_of_nonneg hL1] at hT
   exact Kw (Ab Ae (Ab (Ai (Ab (Af rfl) (Ab (Uh (Ab Ae (Ab Ae (Ab (Al (Af rfl) Ae (Di (j:=8) (by decide) (by decide))) (Ab (Al (Al (Af rfl) Ae (Di (j:=30) (by decide) (by decide))) (Al (Al (Af rfl) Ae (Di (j:=8) (by decide) (by decide))) Ae Cm) (Cp (j:=size / 8+1) (by omega))) Ag)))) (by show 4≤big;decide) (Al (Al (Af rfl) Ae (Di (j:=3) (by decide) (by decide))) Ae (Cp (j:=4) (by decide))) hL) Ag)) hT) Ag)) (by show 2≤big;decide)
  .show (M2.Ea (lawT i L.toNat)&&decide ((lawT i L.toNat).length≤63))=true
   rw[Ack,Ot,Bool.true_and,decide_eq_true_eq]
   omega
 .rcases h with h|e
  .exact h
  .cases e
end
def cut (z:Str) (i j:Nat):Str:=⟨((z.cps.toList.drop i).take (j - i)).toArray⟩
theorem Akr {z:Str} {i j:Nat} (h1:i≤j) (h2:j≤z.length):Txt.slice z (some (i:Int)) (some (j:Int))=cut z i j:=by
 have q:=eq_of_beq (PyProof.Rows.slice_closesL (x:=z) (i:=(i:Int)) (j:=(j:Int)) (by omega) (by omega) (by omega))
 rw[q]
 unfold cut
 rw[show ((j:Int) - (i:Int)).toNat=j - i by omega,Int.toNat_natCast]
theorem Ag1 {z:Str} {j:Nat} (h2:j≤z.length):Txt.slice z none (some (j:Int))=cut z 0 j:=by
 have q:=eq_of_beq (PyProof.Rows.slice_closes_toL (x:=z) (j:=(j:Int)) (by omega) (by omega))
 rw[q]
 unfold cut
 rw[show ((j:Int) - 0).toNat=j - 0 by omega]
 rfl
theorem V1 {z:Str} {i j:Nat} (h1:i≤j) (h2:j≤z.length):(cut z i j).length=j - i:=by
 have hz:z.cps.toList.length=z.length:=Array.length_toList
 unfold cut
 show ((z.cps.toList.drop i).take (j - i)).toArray.size=j - i
 rw[List.size_toArray,List.length_take,List.length_drop]
 omega
theorem Aor {z:Str} {i j:Nat} (h:M2.Ea z=true):M2.Ea (cut z i j)=true:=by
 unfold M2.Ea at h ⊢
 rw[List.all_eq_true] at h ⊢
 intro c hc
 have hc:c∈((z.cps.toList.drop i).take (j - i)).toArray.toList:=hc
 rw[List.toList_toArray] at hc
 exact h c (List.mem_of_mem_drop (List.mem_of_mem_take hc))
def dk (keys:List Str):List (Key×W):=keys.map fun z=>(.inr z,.bl true)
theorem Ax8 (keys:List Str) (z:Str):∃keys',O8 (dk keys) (.inr z) (.bl true)=dk keys'∧keys'.length≤keys.length+1∧(keys.Nodup->keys'.Nodup)∧∀y∈keys',y∈keys∨y=z:=by
 by_cases hz:z∈keys
 .refine⟨keys,?_,Nat.le_succ _,fun h=>h,fun y hy=>.inl hy⟩
  unfold O8
  have ha:((dk keys).any fun p=>decide (p.1=(Sum.inr z:Key)))=true:=List.any_eq_true.mpr ⟨((Sum.inr z:Key),W.bl true),List.mem_map.mpr ⟨z,hz,rfl⟩,decide_eq_true rfl⟩
  rw[if_pos ha]
  unfold dk
  rw[List.map_map]
  refine List.map_congr_left fun y _=>?_
  show (if (Sum.inr y:Key)=.inr z then ((Sum.inr y:Key),W.bl true) else (.inr y,.bl true))=_
  split <;> rfl
 .refine⟨keys ++ [z],?_,by rw[List.length_append];exact Nat.le_refl _,fun h=>?_,fun y hy=>?_⟩
  .unfold O8
   rw[if_neg]
   .unfold dk
    rw[List.map_append]
    rfl
   .intro h
    obtain⟨p,hp,e⟩:=List.any_eq_true.mp h
    obtain⟨y,hy,rfl⟩:=List.mem_map.mp hp
    have e:(Sum.inr y:Key)=.inr z:=of_decide_eq_true e
    exact hz (Sum.inr.inj e ▸ hy)
  .rw[List.nodup_append]
   refine⟨h,List.nodup_cons.mpr ⟨(fun z=>nomatch z),.nil⟩,fun a ha b hb e=>?_⟩
   rw[List.mem_singleton.mp hb] at e
   exact hz (e ▸ ha)
  .rcases List.mem_append.mp hy with h|h
   .exact .inl h
   .exact .inr (List.mem_singleton.mp h)
theorem Ain:∀keys:List Str,Eg Ss (dk keys)=some keys
 |[]=>rfl
 |z::keys=>by
  have:=Ain keys
  unfold dk at this ⊢
  rw[List.map_cons,Eg,this]
  rfl
abbrev Qv (ks:List Str):Prop:=ks.Pairwise fun a b=>Je a b=true
theorem Ou:∀{ks:List Str},Qv ks->Pq ks=true
 |[],_=>rfl
 |[a],_=>rfl
 |a::b::ks,h=>by
  have h:=List.pairwise_cons.mp h
  have ih:=Ou h.2
  unfold Pq at ih ⊢
  show (Je a b&&((b::ks).zip ((b::ks).drop 1)).all fun p=>Je p.1 p.2)=true
  rw[ih,h.1 b (List.mem_cons_self),Bool.and_self]
theorem Aks {a b:Str} (h:leS a b=true) (ne:a≠b):Je a b=true:=by
 cases hc:Je a b with
 |true=>rfl
 |false=>
  have h2:leS b a=true:=by
   unfold leS
   unfold Je at hc
   rw[hc]
   rfl
  exact absurd (Ac6 a b h h2) ne
theorem Px {ks:List Str} (h:ks.Nodup):Qv (Jl ks):=by
 have h1:=Uk ks
 have h2:(Jl ks).Nodup:=(Ho ks).nodup_iff.mpr h
 exact(h1.and h2).imp fun⟨a,b⟩=>Aks a b
section
variable {ns:List Int} {n d:Nat} {k:Int} {S:Store} {Q:W->Store->Prop} {δ:De}
theorem Atg (h:S[n]?=some (stD k)) (h0:0≤k) (h1:k < 900000) (q:∀i S',Fr [n] S S'->S'[n]?=some (stD (k+1))->0≤i->Q (.int i) S'):Wm (Bv ns [.ref n]) S Q:=by
 obtain⟨G,e⟩:=Aij (ns:=ns) h h0 (by omega)
 exact⟨_,_,e,q _ _ (Fr.set.then0 Fr.app) (Fr.app.at0 (Qf (Dy h))) (Aoo ns (k+1))⟩
theorem G8 {i:Nat} (hv:δ[i]?=some (some (.ref n))) (h:S[n]?=some (stD k)) (h0:0≤k) (h1:k < 900000) (q:∀i S',Fr [n] S S'->S'[n]?=some (stD (k+1))->0≤i->Q (.int i) S'):Wm (Ah (Bv ns) (Aa (Ac i) nilF) δ) S Q:=
 Dz (Bl (Ei hv (Dg (Atg h h0 h1 q))))
theorem Bbi {α:Type} {m:M α} {Q':α->Prop} {R:α->Store->Prop} (hm:Sf n d m Q') (h:S[n]?=some (stD k)) (h0:0≤k) (h1:k+d≤900000) (q:∀a k' S',Fr [n] S S'->S'[n]?=some (stD k')->k≤k'->k'≤k+d->Q' a->R a S'):Wm m S R:=by
 obtain⟨a,k',G,e,q1,q2,qa⟩:=hm k S h0 h1 h
 exact⟨a,_,e,q a k' _ (Fr.set.then0 Fr.app) (Fr.app.at0 (Qf (Dy h))) q1 q2 qa⟩
theorem Aos (q:Q (.ref S.length) (S ++ [.dct []])):Wm (Nk [] δ) S Q:=⟨.ref S.length,S ++ [.dct []],rfl,q⟩
def Ag2 (base:Str) (at' size:Nat) (c:Nat):Str:=cut base 0 at' ++ ⟨#[c]⟩ ++ cut base (at'+1) size
theorem Ath {base:Str} {a L c:Nat} (hb:base.length=12) (ht:M2.Ea base=true) (ha:a < L) (hL:L≤12) (hc:M2.okC c=true):isKey (Ag2 base a L c)=true:=by
 have l1:(cut base 0 a).length=a:=by rw[V1 (by omega) (by omega)];omega
 have l2:(cut base (a+1) L).length=L - (a+1):=V1 (by omega) (by omega)
 have l3:(Ag2 base a L c).length=L:=by
  unfold Ag2
  rw[len_app,len_app,l1,l2]
  show a+1+(L - (a+1))=L
  omega
 unfold isKey
 rw[l3]
 unfold Ag2
 rw[G4,G4,Aor ht,Aor ht,show M2.Ea (⟨#[c]⟩:Str)=true from (Agz c).trans hc]
 simp only[Bool.and_self,Bool.true_and,Bool.and_eq_true,decide_eq_true_eq]
 omega
theorem Ati {P:SP} {base:Str} {a L c:Nat} {f1 f2 f3 f4:De->M W} (hb:base.length=12) (ha:a < L) (hL:L≤12) (h1:Pu P (f1 δ) (.str base)) (h2:Pu P (f2 δ) (.int (a:Int))) (h3:Pu P (f3 δ) (.str ⟨#[c]⟩)) (h4:Pu P (f4 δ) (.int (L:Int))) :
  Pu P (Ar .add (Ar .add (slF ns f1 Ed (Fx f2)) f3) (slF ns f1 (Fx (Ar .add f2 (kF (.int 1)))) (Fx f4)) δ) (.str (Ag2 base a L c)):=by
 have l1:(cut base 0 a).length=a:=by rw[V1 (by omega) (by omega)];omega
 have l2:(cut base (a+1) L).length=L - (a+1):=V1 (by omega) (by omega)
 have s1:Pu P (slF ns f1 Ed (Fx f2) δ) (.str (cut base 0 a)):=by
  refine Pr h1 Gv (Hz h2) ?_
  show Pu P (if base.length≤big then pure (W.str (Txt.slice base none (some (a:Int)))) else bad) _
  rw[Ag1 (by omega)]
  exact Kp (by rw[hb];decide) Pu.pure
 have s2:Pu P (slF ns f1 (Fx (Ar .add f2 (kF (.int 1)))) (Fx f4) δ) (.str (cut base (a+1) L)):=by
  refine Pr h1 (Hz (Al h2 Ae Cm)) (Hz h4) ?_
  show Pu P (if base.length≤big then pure (W.str (Txt.slice base (some ((a:Int)+1)) (some (L:Int)))) else bad) _
  rw[show ((a:Int)+1)=((a+1:Nat):Int) by omega,Akr (by omega) (by omega)]
  exact Kp (by rw[hb];decide) Pu.pure
 refine Al (Al s1 h3 (Bs ?_)) s2 (Bs ?_)
 .rw[l1]
  show a+1≤big
  unfold big;omega
 .rw[len_app,l1,l2]
  show a+1+(L - (a+1))≤big
  unfold big;omega
theorem Akt {d:Nat} {keys:List Str} (hd:S[d]?=some (.dct (dk keys))) (hl:keys.length < 64) (q:Q (.ref S.length) (S ++ [.lst ((Jl keys).map W.str)])):Wm (Jp [.ref d]) S Q:=⟨_,_,by
 unfold Jp
 dsimp only
 rw[hd]
 dsimp only
 rw[if_pos (by unfold dk;rw[List.length_map];exact hl),Ain]
 dsimp only
 unfold Bu
 rw[if_pos (by rw[List.length_map,(Ho keys).length_eq];unfold big;omega)],q⟩
theorem Aku (i:Int) (hi:0≤i):∃L:Nat,atI [W.int 1,.int 12,.int (1+i / 5 % 12),.int 3,.int (2+i / 5 % 3)] (i % 5)=some (.int (L:Int))∧1≤L∧L≤12:=by
 have h5:i % 5=0∨i % 5=1∨i % 5=2∨i % 5=3∨i % 5=4:=by omega
 rcases h5 with h|h|h|h|h <;> rw[h]
 .exact⟨1,rfl,by omega,by omega⟩
 .exact⟨12,rfl,by omega,by omega⟩
 .refine⟨(1+i / 5 % 12).toNat,?_,by omega,by omega⟩
  rw[Int.toNat_of_nonneg (by omega)];rfl
 .exact⟨3,rfl,by omega,by omega⟩
 .refine⟨(2+i / 5 % 3).toNat,?_,by omega,by omega⟩
  rw[Int.toNat_of_nonneg (by omega)];rfl
theorem Akv {many:Nat} (hm:many≤13) (h:S[n]?=some (stD k)) (h0:0≤k) (h1:k+20≤900000)
  (q:∀r keys k' S',Fr [n] S S'->S'[n]?=some (stD k')->k≤k'->k'≤k+14->S'[r]?=some (.lst (keys.map W.str))->S.length≤r->keys.length≤13->(∀z∈keys,isKey z=true)->Qv keys->Q (.ref r) S') :
  Wm (K6 ns [.ref n,.int (many:Int)]) S Q:=by
 refine Td rfl ?_
 refine Ds (Dz (Bl (G8 rfl h h0 (by omega) fun i0 S1 f1 g1 hi0=>Bl (Ih (Dg ?_)))))
 refine Bw (Acl (n:=i0) (size:=12) (by decide)) fun S2 f2=>?_
 refine Ds (Aos ?_)
 have f3:Fr [n] S (S2 ++ [.dct []]):=(f1.then0 f2).then0 .app
 have hb:(lawT i0 12).length=12:=Ot i0 12
 have hbt:M2.Ea (lawT i0 12)=true:=Ack i0 12
 have hlen:S.length≤S2.length:=(f1.then0 f2).len
 have hnl:n < S.length:=Dy h
 generalize lawT i0 12=base at hb hbt
 generalize hD:S2.length=D
 have hD2:(S2 ++ [Cell.dct []])[D]?=some (.dct (dk [])):=by rw[←hD];exact Ii
 have hN2:(S2 ++ [Cell.dct []])[n]?=some (stD (k+1)):=Fr.app.at0 (f2.at0 g1)
 refine An5 (P:=SP.any) (Hc (k:=many) (Ab (Af rfl) Ag) (by unfold big;omega)) trivial fun S3 f4=>?_
 refine Ah9 (J:=fun i δ T=>∃x4 x5 x6 x7 x8 x9 keys,δ=[some (.ref n),some (.int (many:Int)),some (.str base),some (.ref D),x4,x5,x6,x7,x8,x9]∧Fr [n] S T∧T[n]?=some (stD (k+1+(i:Int)))∧T[D]?=some (.dct (dk keys))∧keys.length≤i∧keys.Nodup∧∀z∈keys,isKey z=true) ?_ ?_ ?_
 .rintro i w δ T hw ⟨x4,x5,x6,x7,x8,x9,keys,rfl,fT,hN,hD3,kl,kn,kk⟩
  have hi:i < many:=by
   have:=(List.getElem?_eq_some_iff.mp hw).1
   rw[List.length_map,List.length_range] at this
   exact this
  refine⟨_,rfl,?_⟩
  refine Ds (G8 rfl hN (by omega) (by omega) fun j T1 e1 gN hj=>?_)
  obtain⟨L,hL,L1,L2⟩:=Aku j hj
  refine Ds (Bw (a:=W.int (L:Int)) (Uh (Ab Ae (Ab Ae (Ab (Al Ae (Al (Al (Af rfl) Ae (Di (j:=5) (by decide) (by decide))) Ae (Cp (j:=12) (by decide))) Cm) (Ab Ae (Ab (Al Ae (Al (Al (Af rfl) Ae (Di (j:=5) (by decide) (by decide))) Ae (Cp (j:=3) (by decide))) Cm) Ag))))) (by show 5≤big;decide) (Al (Af rfl) Ae (Cp (j:=5) (by decide))) hL) fun T2 e2=>?_)
  obtain⟨A,hA,hAL⟩:∃A:Nat,j / 60 % (L:Int)=(A:Int)∧A < L:=by
   have z1:=Int.emod_nonneg (j / 60) (show (L:Int)≠0 by omega)
   have z2:=Int.emod_lt_of_pos (j / 60) (show (0:Int) < L by omega)
   exact⟨(j / 60 % (L:Int)).toNat,by rw[Int.toNat_of_nonneg z1],by omega⟩
  refine Ds (Bw (a:=W.int (A:Int)) ((Al (Al (Af rfl) Ae (Di (j:=60) (by decide) (by decide))) (Af rfl) (Cp (j:=(L:Int)) (by omega))).cast (by rw[hA])) fun T3 e3=>?_)
  refine Ds (Bw (Ai Ag Ae1) fun T4 e4=>?_)
  refine Ds (Bw (a:=W.str ⟨#[sgnN (j / 720 % 94)]⟩) (Aw (Af rfl) (Al (Al (Af rfl) Ae (Di (j:=720) (by decide) (by decide))) (Pu.cast (a':=W.int 94) (Ai (Ab (Af rfl) Ag) (len_str (by rw[Kh];decide))) (by rw[Kh];rfl)) (Cp (j:=94) (by decide))) (Aop (by omega) (by omega))) fun T5 e5=>?_)
  have hok:M2.okC (sgnN (j / 720 % 94))=true:=Aik (by omega) (by omega)
  generalize sgnN (j / 720 % 94)=c at hok
  obtain⟨keys',ek,kl',kn',kk'⟩:=Ax8 keys (Ag2 base A L c)
  have hnD:n≠D:=by omega
  have fr:Fr [n] T T5:=e1.then0 (((e2.then0 e3).then0 e4).then0 e5)
  have hD5:=fr.at1 hD3 (Ne.symm hnD)
  refine Asr (P:=SP.any) (d:=D) (kk:=.inr (Ag2 base A L c)) Ae (Af rfl) (Ati hb hAL L2 (Af rfl) (Af rfl) (Af rfl) (Af rfl)) trivial hD5 rfl (by unfold dk big;rw[List.length_map];omega) fun T6 e6=>?_
  rw[ek]
  refine Jc ⟨_,_,_,_,_,_,keys',rfl,?_,?_,Qf ?_,by omega,kn' kn,fun z hz=>?_⟩
  .exact(fT.same (fr.then0 e6)).trans Fr.set fun i hi=>.inr (by rw[List.mem_singleton.mp hi];omega)
  .rw[List.getElem?_set_ne (Ne.symm hnD)]
   have:=(((e2.then0 e3).then0 e4).then0 e5).then0 e6 |>.at0 gN
   rw[this,show k+1+(i:Int)+1=k+1+((i+1:Nat):Int) by omega]
  .have:=e6.len
   have:=Dy hD5
   omega
  .rcases kk' z hz with h|h
   .exact kk z h
   .rw[h];exact Ath hb hbt hAL L2 hok
 .rintro δ T ⟨x4,x5,x6,x7,x8,x9,keys,rfl,fT,hN,hD3,kl,kn,kk⟩
  rw[List.length_map,List.length_range] at hN kl
  refine Kz (Dz (Bl (Ei rfl (Dg (Akt hD3 (by omega) ?_)))))
  have hp:=Ho keys
  refine q T.length (Jl keys) (k+1+(many:Int)) _ (fT.then0 .app) (Fr.app.at0 hN) (by omega) (by omega) Ii fT.len (by rw[hp.length_eq];omega) (fun z hz=>kk z (hp.mem_iff.mp hz)) (Px kn)
 .refine⟨_,_,_,_,_,_,[],rfl,f3.then0 f4,?_,f4.at0 hD2,Nat.le_refl _,.nil,fun z hz=>(nomatch hz)⟩
  rw[show k+1+((0:Nat):Int)=k+1 by omega]
  exact f4.at0 hN2
end
section
variable {ns:List Int} {n d:Nat} {k:Int} {S:Store} {Q:W->Store->Prop} {δ:De}
def Fits (size:Int) (w:W):Prop:=∃p:Pg,p.ok∧w=p.w∧(p.body.length:Int)≤size - 5
abbrev R5 (n d:Nat) (k:Int) (S:Store) (R:W->Prop):W->Store->Prop:=fun w S'=>∃k',Fr [n] S S'∧S'[n]?=some (stD k')∧k≤k'∧k'≤k+d∧R w
theorem Akw (i j:Int) (hi:0≤i) (hj:0≤j):∃v,atI [W.int 4095,.int 0,.int 63,.int 64,.int (i % 4096)] (j % 5)=some (.int v)∧Eu v 0=true:=by
 have h5:j % 5=0∨j % 5=1∨j % 5=2∨j % 5=3∨j % 5=4:=by omega
 rcases h5 with h|h|h|h|h <;> rw[h]
 .exact⟨4095,rfl,by decide⟩
 .exact⟨0,rfl,by decide⟩
 .exact⟨63,rfl,by decide⟩
 .exact⟨64,rfl,by decide⟩
 .refine⟨_,rfl,?_⟩
  unfold Eu
  simp only[Bool.and_eq_true,decide_eq_true_eq]
  omega
theorem Atj {b':MS} {size:Int} (h1:64≤size) (h:S[n]?=some (stD k)) (h0:0≤k) (hk:k+30≤900000) (hv:∃x1 x2 x3 x4 x5 x6 x7,δ=[some (.ref n),x1,x2,x3,x4,x5,x6,x7]) :
  Wb (Ak (Bx 4 (Cy 1 [0] (Lh Hq (Aa (kF (.int 4)) nilF)) (Cr 0) (fun _=>pure true) (ixF ns (Jo (Aa (kF (.int 4095)) (Aa (kF (.int 0)) (Aa (kF (.int 63)) (Aa (kF (.int 64)) (Aa (Ar .mod (Ah (Bv ns) (Aa (Ac 1) nilF)) (kF (.int 4096))) nilF)))))) (Ar .mod (Ah (Bv ns) (Aa (Ac 1) nilF)) (kF (.int 5))))))
  (Ak (retS (Ar .add (Jh (Aa (kF (.str "head")) nilF)) (Ah (Em ns) (Aa (Ac 4) nilF))))
  Am)) δ S (G6 b' (Vf (R5 n 10 k S (Fits size)))):=by
 obtain⟨x1,x2,x3,x4,x5,x6,x7,rfl⟩:=hv
 refine Ds (Aia (P:=SP.any) (ws:=(List.range 4).map fun(k:Nat)=>W.int ((0:Int)+(k:Int))) (Hc (k:=4) (Ab Ae Ag) (by decide)) trivial fun S1 f1=>?_)
 refine Ad7 (J:=fun i δ acc T=>∃x vs,δ=[x,some (.ref n)]∧acc=List.map W.int vs∧vs.length=i∧(∀v∈vs,Eu v 0=true)∧Fr [n] S T∧T[n]?=some (stD (k+2 * (i:Int)))) ?_ ?_ ⟨none,[],rfl,rfl,rfl,fun _ h=>(nomatch h),f1.of0,by rw[show k+2 * ((0:Nat):Int)=k by omega];exact f1.at0 h⟩
 .rintro i w δ acc T hw ⟨x,vs,rfl,rfl,hl,hvs,fT,hT⟩
  have hi:i < 4:=by
   have:=(List.getElem?_eq_some_iff.mp hw).1
   rw[List.length_map,List.length_range] at this
   exact this
  refine⟨_,rfl,Jt (if_pos rfl ▸ ?_)⟩
  refine Aue (W9 (Bl (Ih (Bl (Ih (Bl (Ih (Bl (Ih (Bl (Ga (G8 rfl hT (by omega) (by omega) fun a T1 e1 g1 ha=>Ih (Bw (Cp (j:=4096) (by decide)) fun T2 e2=>Dg ⟨by show 5≤big;decide,?_⟩)))))))))))))
  have g3:(T2 ++ [Cell.lst [.int 4095,.int 0,.int 63,.int 64,.int (a % 4096)]])[n]?=some (stD (k+2 * (i:Int)+1)):=Fr.app.at0 (e2.at0 g1)
  have hne:T2.length≠n:=by
   have:=Dy (e2.at0 g1)
   omega
  refine Ga (G8 rfl g3 (by omega) (by omega) fun b T3 e3 g4 hb=>Ih (Bw (Cp (j:=5) (by decide)) fun T4 e4=>?_))
  obtain⟨v,ev,hv⟩:=Akw a b ha hb
  refine An1 (e4.at0 (e3.at1 Ii hne)) ev ⟨by rw[List.length_map,hl];unfold big;omega,_,vs ++ [v],rfl,by rw[List.map_append];rfl,by rw[List.length_append,hl];rfl,?_,?_,?_⟩
  .intro u hu
   rcases List.mem_append.mp hu with h|h
   .exact hvs u h
   .rw[List.mem_singleton.mp h];exact hv
  .exact(fT.same (((e1.then0 e2).then0 Fr.app).same e3)).then0 e4
  .rw[e4.at0 g4,show k+2 * (i:Int)+1+1=k+2 * ((i+1:Nat):Int) by omega]
 .rintro δ acc T ⟨x,vs,rfl,rfl,hl,hvs,fT,hT⟩
  rw[List.length_map,List.length_range] at hl hT
  refine⟨by rw[List.length_map,hl];decide,?_⟩
  have hA:(T ++ [Cell.lst (vs.map W.int)])[T.length]?=some (.lst (vs.map W.int)):=Ii
  refine Kz (Ga (Bw (Kw (Ab Ae Ag) (by decide)) fun T1 e1=>Dz (Bl (Ei rfl (Dg (Tc (e1.at0 hA) ?_))))))
  obtain⟨a,b,c,d,rfl⟩:∃a b c d,vs=[a,b,c,d]:=by
   match vs,hl with
   |[a,b,c,d],_=>exact⟨a,b,c,d,rfl⟩
  refine⟨Pg.w (.head a b c d),T1,rfl,k+8,(fT.then0 .app).then0 e1,e1.at0 (Fr.app.at0 hT),by omega,by omega,.head a b c d,?_,rfl,?_⟩
  .exact⟨hvs a (by simp),hvs b (by simp),hvs c (by simp),hvs d (by simp)⟩
  .show ((Ia [a,b,c,d]).length:Int)≤size - 5
   rw[Fq]
   show ((2 * 4:Nat):Int)≤_
   omega
end
theorem Ui {α β:Type} (f:α->β):∀(l:List α) (i:Nat),(l.map f).eraseIdx i=(l.eraseIdx i).map f
 |[],_=>rfl
 |_::_,0=>rfl
 |a::l,i+1=>by
  rw[List.map_cons,List.eraseIdx_cons_succ,List.eraseIdx_cons_succ,List.map_cons,Ui f l i]
structure Rows (rs:List (Str×Cl)):Prop where
 len:rs.length≤13
 ok:∀r∈rs,isKey r.1=true∧r.2.ok=true
 rise:Qv (rs.map (·.1))
theorem Rows.rowsOk {rs:List (Str×Cl)} (h:Rows rs):rowsOk rs:=⟨Nat.le_trans h.len (by decide),h.ok,Ou h.rise⟩
theorem Rows.erase {rs:List (Str×Cl)} (h:Rows rs) (i:Nat):Rows (rs.eraseIdx i) where
 len:=Nat.le_trans (by rw[List.length_eraseIdx];split <;> omega) h.len
 ok:=fun r hr=>h.ok r (List.mem_of_mem_eraseIdx hr)
 rise:=h.rise.sublist ((List.eraseIdx_sublist rs i).map _)
theorem Ae2 {α:Type} {l:List α} {i:Nat} (h:i < l.length):(l.eraseIdx i).length < l.length:=by
 rw[List.length_eraseIdx,if_pos h]
 omega
theorem Aot {m:Nat} {i:Int} (h0:0≤i) (h:i < m):ixN m i=some i.toNat:=by
 unfold ixN
 rw[if_pos h0,if_pos h]
section
variable {P:SP} {ns:List Int} {n d r:Nat} {k:Int} {S:Store} {Q:W->Store->Prop} {δ:De} {ws:List W}
theorem Mf {i:Nat} (h0:∀S,P.p S->AtL r ws S) (hv:δ[i]?=some (some (.ref r))):Pu P (Ah (Em ns) (Aa (Ac i) nilF) δ) (.tup ws):=
 Ai (Ab (Af hv) Ag) fun S hS=>⟨[],by
  have e:S[r]?=some (.lst ws):=h0 S hS
  unfold Em
  dsimp only
  rw[e,List.append_nil]⟩
theorem R6 {i:Nat} (h0:∀S,P.p S->AtL r ws S) (hv:δ[i]?=some (some (.ref r))):Pu P (Ah (Cv ns) (Aa (Ac i) nilF) δ) (.int ws.length):=
 Ai (Ab (Af hv) Ag) fun S hS=>⟨[],by
  have e:S[r]?=some (.lst ws):=h0 S hS
  unfold Cv
  dsimp only
  rw[e,List.append_nil]⟩
theorem Aio {i2 i7:Nat} {num:Int} (hr:S[r]?=some (.lst ws)) (h2:δ[i2]?=some (some (.int num))) (h7:δ[i7]?=some (some (.ref r))) (hl:ws.length≤big) (hw:0 < ws.length)
  (q:∀j w S',Fr [] S S'->j < ws.length->Q w (S'.set r (.lst (ws.eraseIdx j)))):Wm (Ji .lst Mg (Ac i7) (Aa (Ar .mod (Ac i2) (Ah (Cv ns) (Aa (Ac i7) nilF))) nilF) δ) S Q:=by
 refine Abu (P:=SP.any) (Af h7) trivial hr fun S1 f1=>?_
 have hr1:=f1.at0 hr
 have hm:0 < (ws.length:Int):=by omega
 have z1:=Int.emod_nonneg num (show (ws.length:Int)≠0 by omega)
 have z2:=Int.emod_lt_of_pos num hm
 refine Bl (Ga (Ei h2 ?_))
 refine Dz (Bl (Ei h7 (Dg (Asp hr1 ?_))))
 refine Bw (Cp hm) fun S2 f2=>Dg ?_
 obtain⟨w,hw2⟩:∃w,ws[(num % (ws.length:Int)).toNat]?=some w:=⟨_,List.getElem?_eq_getElem (by omega)⟩
 exact An2 (f2.at0 hr1) hl (Aot z1 z2) hw2 (q _ w S2 (f1.then0 f2) (by omega))
theorem Atk {size num:Int} {keys:List Str} {b':MS} (h1:64≤size) (h2:size≤200) (hn:0≤num) {k0:Int} {S0:Store} (f0:Fr [n] S0 S) (h:S[n]?=some (stD k)) (h0:0≤k) (hk0:k0≤k) (hkd:k≤k0+15) (hk:k+30≤900000) (hr:S[r]?=some (.lst (keys.map W.str))) (hrl:S0.length≤r) (kl:keys.length≤13) (kk:∀z∈keys,isKey z=true) (kr:Qv keys)
  (hv:∃x3 x4 x5 x7,δ=[some (.ref n),some (.int size),some (.int num),x3,x4,x5,some (.ref r),x7]) (hn0:n < S0.length) :
  Wb (Ak (Bx 7 (Cy 1 [1,0] (Eh ns (Ac 6)) (Cr 0) (fun _=>pure true) (Jh (Aa (Ac 0) (Aa (Ah (Ks ns) (Aa (Ac 2) (Aa (Ac 1) nilF))) nilF)))))
  (Ak (Fy (Az (Bc .Gt (Ah (Cv ns) (Aa (Ah (Dw ns) (Aa (Jh (Aa (kF (.str "leaf")) (Aa (Ah (Em ns) (Aa (Ac 7) nilF)) nilF))) nilF)) nilF)) (Ar .sub (Ac 1) (kF (.int 5))))) (Ak (M7 (Ji .lst Mg (Ac 7) (Aa (Ar .mod (Ac 2) (Ah (Cv ns) (Aa (Ac 7) nilF))) nilF)))
   Am) fuel)
  (Ak (retS (Jh (Aa (kF (.str "leaf")) (Aa (Ah (Em ns) (Aa (Ac 7) nilF)) nilF))))
  Am))) δ S (G6 b' (Vf (R5 n 30 k0 S0 (Fits size)))):=by
 obtain⟨x3,x4,x5,x7,rfl⟩:=hv
 have hnr:r≠n:=by omega
 refine Ds (An6 (P:=SP.any.at r (keys.map W.str)) (Abr (fun _ h=>h.2) (Af rfl)) ⟨trivial,hr⟩ hr fun S1 f1=>?_)
 refine Tf (d:=r) (ws:=keys.map W.str) (J:=fun i δ acc T=>∃x rs k',δ=[x,some (.int size),some (.ref n)]∧acc=List.map Km rs∧rs.map (·.1)=keys.take i∧(∀r∈rs,r.2.ok=true)∧Fr [n] S T∧T[n]?=some (stD k')∧k≤k'∧k'≤k+i) ?_ ?_ ?_ _ 0 _ [] S1 ?_ (Nat.zero_le _) (by omega)
 .rintro i δ acc T ⟨x,rs,k',_,_,_,_,fT,_⟩
  exact fT.at1 hr hnr
 .rintro i w δ acc T hw ⟨x,rs,k',rfl,rfl,e1,e2,fT,hT,q1,q2⟩
  rw[List.getElem?_map] at hw
  obtain⟨z,hz,rfl⟩:=Option.map_eq_some_iff.mp hw
  have hi:i < keys.length:=(List.getElem?_eq_some_iff.mp hz).1
  refine⟨_,rfl,Jt (if_pos rfl ▸ ?_)⟩
  refine Sy (Bl (Ei rfl (Bl ?_)))
  refine Dz (Bl (Ei rfl (Bl (Ei rfl (Dg ?_)))))
  refine Bbi (Atf h1 h2) hT (by omega) (by omega) fun c k2 T2 g1 g2 g3 g4 hcl=>?_
  obtain⟨cl,hc,ec⟩:=hcl
  refine Dg ⟨by show 2≤big;decide,?_⟩
  subst ec
  have hrs:rs.length=i:=by
   have:=congrArg List.length e1
   rw[List.length_map,List.length_take] at this
   omega
  refine⟨by rw[List.length_map,hrs];unfold big;omega,_,rs ++ [(z,cl)],k2,rfl,by rw[List.map_append];rfl,?_,?_,fT.same g1,g2,by omega,by omega⟩
  .rw[List.map_append,e1,List.map_cons,List.map_nil,List.take_add_one,hz]
   rfl
  .intro r hr
   rcases List.mem_append.mp hr with h|h
   .exact e2 r h
   .rw[List.mem_singleton.mp h];exact hc
 .rintro δ acc T ⟨x,rs,k',rfl,rfl,e1,e2,fT,hT,q1,q2⟩
  rw[List.length_map] at e1 q2
  rw[List.take_length] at e1
  have hrs:rs.length=keys.length:=by rw[←e1,List.length_map]
  refine⟨by rw[List.length_map];unfold big;omega,?_⟩
  have hR:Rows rs:=⟨by omega,fun r hr=>⟨kk r.1 (e1 ▸ List.mem_map.mpr ⟨r,hr,rfl⟩),e2 r hr⟩,e1 ▸ kr⟩
  have hn2:n < T.length:=Dy hT
  refine Rc (fuel:=fuel) (m:=rs.length) (J:=fun m δ U=>∃rs,δ=[some (.ref n),some (.int size),some (.int num),x3,x4,x5,some (.ref r),some (.ref T.length)]∧m=rs.length∧Rows rs∧U[T.length]?=some (.lst (rs.map Km))∧Fr [n] S U∧U[n]?=some (stD k')) ⟨rs,rfl,rfl,hR,Ii,fT.then0 .app,Fr.app.at0 hT⟩ (by unfold fuel;omega) ?_
  rintro m δ U ⟨rs,rfl,rfl,hR,hU,fU,hN⟩
  have hok:Pg.ok (.leaf rs):=hR.rowsOk
  have hbl:(Pg.leaf rs).body.length≤big:=by
   show (M1.Cw 1 rs.length ++ jn (rs.map Hu)).length≤big
   have:=Aaf (ys:=rs.map Hu) (c:=78) (n:=13) (fun y hy=>by
    obtain⟨r,hr,rfl⟩:=List.mem_map.mp hy
    exact X7 (hR.ok r hr).1 (hR.ok r hr).2) (by rw[List.length_map];exact hR.len)
   rw[len_app,Bj]
   unfold big
   omega
  refine J6 (P:=SP.any.at T.length (rs.map Km)) (a:=decide (size - 5 < ((Pg.leaf rs).body.length:Int))) (Aj (Ao (Ai (Ab (Ai (Ab (Kw (Ab Ae (Ab (Mf (fun _ h=>h.2) rfl) Ag)) (by show 2≤big;decide)) Ag) (Kg hok)) Ag) (len_str hbl)) (Al (Af rfl) Ae Gr) Ln)) ⟨trivial,hU⟩ fun U1 e1=>?_
  by_cases hc:size - 5 < ((Pg.leaf rs).body.length:Int)
  .rw[if_pos (decide_eq_true hc)]
   have hpos:0 < (rs.map Km).length:=by
    rw[List.length_map]
    rcases Nat.eq_zero_or_pos rs.length with z|z
    .have:rs=[]:=List.length_eq_zero_iff.mp z
     subst this
     have:((Pg.leaf []).body.length:Int)=1:=rfl
     omega
    .exact z
   refine Vv (Aio (e1.at0 hU) rfl rfl (by rw[List.length_map];have:=hR.len;unfold big;omega) hpos fun j w U2 e2 hj=>?_)
   rw[List.length_map] at hj
   refine Jc ⟨_,Ae2 hj,rs.eraseIdx j,rfl,rfl,hR.erase j,?_,?_,?_⟩
   .rw[Ui]
    exact Qf (by have:=Dy (e2.at0 (e1.at0 hU));omega)
   .exact(fU.then0 (e1.then0 e2)).trans Fr.set fun i hi=>.inr (by rw[List.mem_singleton.mp hi];exact fT.len)
   .rw[List.getElem?_set_ne (by omega)]
    exact e2.at0 (e1.at0 hN)
  .rw[if_neg (by rw[decide_eq_false hc];exact Bool.false_ne_true)]
   refine Kz (J6 (P:=SP.any.at T.length (rs.map Km)) (Kw (Ab Ae (Ab (Mf (fun _ h=>h.2) rfl) Ag)) (by show 2≤big;decide)) ⟨trivial,e1.at0 hU⟩ fun U2 e2=>?_)
   exact⟨k',f0.same ((fU.then0 e1).then0 e2),e2.at0 (e1.at0 hN),by omega,by omega,.leaf rs,hok,rfl,by omega⟩
 .exact⟨none,[],k,rfl,rfl,rfl,fun _ h=>(nomatch h),f1.of0,f1.at0 h,by omega,by omega⟩
end
structure Aou (ks:List Str):Prop where
 len:ks.length≤13
 ok:∀z∈ks,isKey z=true
 rise:Qv ks
theorem Aou.erase {ks:List Str} (h:Aou ks) (i:Nat):Aou (ks.eraseIdx i) where
 len:=Nat.le_trans (by rw[List.length_eraseIdx];split <;> omega) h.len
 ok:=fun r hr=>h.ok r (List.mem_of_mem_eraseIdx hr)
 rise:=h.rise.sublist (List.eraseIdx_sublist ks i)
def M6 (ks:List Str):Int:=(ks.map fun z=>1+(z.length:Int)).sum
theorem Ae3:∀ks:List Str,((jn (ks.map Gz)).length:Int)=M6 ks
 |[]=>rfl
 |z::ks=>by
  have ih:=Ae3 ks
  unfold M6 at ih ⊢
  rw[List.map_cons,List.map_cons,Jx,len_app,List.sum_cons,←ih]
  unfold Gz
  rw[len_app,Bj]
  omega
theorem Yc (ks:List Str) (ps:List Int) (h:ps.length=ks.length+1):((Pg.fork ks ps).body.length:Int)=1+M6 ks+2 * (ks.length:Int)+2:=by
 show ((M1.Cw 1 ks.length ++ jn (ks.map Gz) ++ Ia ps).length:Int)=_
 rw[len_app,len_app,Bj,Fq,h,←Ae3]
 omega
theorem Ae4 {i:Int} (h0:0≤i) (h1:i≤1000000):small i=true:=Aaj h0 h1
section
variable {P:SP} {ns:List Int} {n d r:Nat} {k:Int} {S:Store} {Q:W->Store->Prop} {δ:De} {ws:List W}
theorem Akx {i:Nat} {ks:List Str} (h0:∀S,P.p S->AtL r (ks.map W.str) S) (hv:δ[i]?=some (some (.ref r))) (hl:ks.length≤big) (hk:∀z∈ks,isKey z=true) :
  Pu P (Ah Abb (Aa (Cy 1 [] (Eh ns (Ac i)) (Cr 0) (fun _=>pure true) (Ar .add (kF (.int 1)) (Ah (Cv ns) (Aa (Ac 0) nilF)))) nilF) δ) (.int (M6 ks)):=by
 refine Any (is:=ks.map fun z=>1+(z.length:Int)) ?_
 have h:=Abq (P:=P) (xs:=ks) (φ:=W.str) (ψ:=fun z=>W.int (1+(z.length:Int))) (τ:=fun _=>true) (s:=Cr 0) (t:=fun _=>pure true) (e:=Ar .add (kF (.int 1)) (Ah (Cv ns) (Aa (Ac 0) nilF))) (k:=1) (cap:=[]) (δ:=δ) (src:=Eh ns (Ac i)) (n:=r) h0
  (Abr h0 (Af hv)) Ra (fun z hz=>⟨Pu.pure,fun _=>Al Ae (Ai (Ab (Af rfl) Ag) (len_str (Rw (hk z hz)))) Cm⟩) ⟨none,rfl⟩ hl
 rw[List.filter_eq_self.mpr (fun _ _=>rfl)] at h
 rw[List.map_map]
 exact h
theorem Atl {size num:Int} {keys:List Str} (h1:64≤size) (h2:size≤200) (hn:0≤num) {k0:Int} {S0:Store} (f0:Fr [n] S0 S) (h:S[n]?=some (stD k)) (h0:0≤k) (hk0:k0≤k) (hkd:k≤k0+15) (hk:k+30≤900000) (hr:S[r]?=some (.lst (keys.map W.str))) (hrl:S0.length≤r) (hK:Aou keys)
  (hv:∃x3 x4 x5 x7,δ=[some (.ref n),some (.int size),some (.int num),x3,x4,x5,some (.ref r),x7]) (hn0:n < S0.length) :
  Wb (Ak (Fy (Az (Bc .Gt (Ar .add (Ar .add (Ar .add (kF (.int 1)) (Ah Abb (Aa (Cy 1 [] (Eh ns (Ac 6)) (Cr 0) (fun _=>pure true) (Ar .add (kF (.int 1)) (Ah (Cv ns) (Aa (Ac 0) nilF)))) nilF))) (Ar .mul (kF (.int 2)) (Ah (Cv ns) (Aa (Ac 6) nilF)))) (kF (.int 2))) (Ar .sub (Ac 1) (kF (.int 5))))) (Ak (M7 (Ji .lst Mg (Ac 6) (Aa (Ar .mod (Ac 2) (Ah (Cv ns) (Aa (Ac 6) nilF))) nilF)))
  Am) fuel)
 (Ak (retS (Jh (Aa (kF (.str "fork")) (Aa (Ah (Em ns) (Aa (Ac 6) nilF)) (Aa (Ah (Em ns) (Aa (Cy 1 [0] (Lh Hq (Aa (Ar .add (Ah (Cv ns) (Aa (Ac 6) nilF)) (kF (.int 1))) nilF)) (Cr 0) (fun _=>pure true) (Ar .add (kF (.int 1)) (Ar .mod (Ah (Bv ns) (Aa (Ac 1) nilF)) (kF (.int 4095))))) nilF)) nilF)))))
 Am)) δ S (Vf (R5 n 30 k0 S0 (Fits size))):=by
 obtain⟨x3,x4,x5,x7,rfl⟩:=hv
 have hnr:r≠n:=by omega
 refine Rc (fuel:=fuel) (m:=keys.length) (J:=fun m δ U=>∃ks,δ=[some (.ref n),some (.int size),some (.int num),x3,x4,x5,some (.ref r),x7]∧m=ks.length∧Aou ks∧U[r]?=some (.lst (ks.map W.str))∧Fr [n] S0 U∧U[n]?=some (stD k)) ⟨keys,rfl,rfl,hK,hr,f0,h⟩ (by have:=hK.len;unfold fuel;omega) ?_
 rintro m δ U ⟨ks,rfl,rfl,hK,hU,fU,hN⟩
 have kl:=hK.len
 have hsm:small ((ks.length:Nat):Int)=true:=Ae4 (by omega) (by omega)
 have hlm:((ks.map W.str).length:Int)=(ks.length:Int):=by rw[List.length_map]
 refine J6 (P:=SP.any.at r (ks.map W.str)) (a:=decide (size - 5 < 1+M6 ks+2 * (ks.length:Int)+2)) (Aj ((Ao (Al (Al (Al Ae (Akx (fun _ h=>h.2) rfl (by unfold big;omega) hK.ok) Cm) (Al Ae (Pu.cast (a':=W.int (ks.length:Int)) (R6 (fun _ h=>h.2) rfl) (by rw[hlm])) (Gs (by rw[hsm,Bool.or_true]))) Cm) Ae Cm) (Al (Af rfl) Ae Gr) Ln))) ⟨trivial,hU⟩ fun U1 e1=>?_
 by_cases hc:size - 5 < 1+M6 ks+2 * (ks.length:Int)+2
 .rw[if_pos (decide_eq_true hc)]
  have hpos:0 < (ks.map W.str).length:=by
   rw[List.length_map]
   rcases Nat.eq_zero_or_pos ks.length with z|z
   .have:ks=[]:=List.length_eq_zero_iff.mp z
    subst this
    have:M6 []=0:=rfl
    have:(([]:List Str).length:Int)=0:=rfl
    omega
   .exact z
  refine Vv (Aio (e1.at0 hU) rfl rfl (by rw[List.length_map];unfold big;omega) hpos fun j w U2 e2 hj=>?_)
  rw[List.length_map] at hj
  refine Jc ⟨_,Ae2 hj,ks.eraseIdx j,rfl,rfl,hK.erase j,?_,?_,?_⟩
  .rw[Ui]
   exact Qf (by have:=Dy (e2.at0 (e1.at0 hU));omega)
  .exact(fU.then0 (e1.then0 e2)).trans Fr.set fun i hi=>.inr (by rw[List.mem_singleton.mp hi];exact hrl)
  .rw[List.getElem?_set_ne hnr]
   exact e2.at0 (e1.at0 hN)
 .rw[if_neg (by rw[decide_eq_false hc];exact Bool.false_ne_true)]
  have hU1:=e1.at0 hU
  refine Kz (Sy (Bl (Ih (Bl ?_))))
  refine J6 (P:=SP.any.at r (ks.map W.str)) (Mf (fun _ h=>h.2) rfl) ⟨trivial,hU1⟩ fun U2 e2=>?_
  refine Bl (Dz (Bl ?_))
  refine Aia (P:=SP.any.at r (ks.map W.str)) (ws:=(List.range (ks.length+1)).map fun(k:Nat)=>W.int ((0:Int)+(k:Int))) (Hc (k:=ks.length+1) (Ab (Pu.cast (Al (R6 (fun _ h=>h.2) rfl) Ae Cm) (by rw[hlm];rfl)) Ag) (by unfold big;omega)) ⟨trivial,e2.at0 hU1⟩ fun U3 e3=>?_
  have f3:Fr [n] S0 U3:=((fU.then0 e1).then0 e2).then0 e3
  refine Ad7 (J:=fun i δ acc T=>∃x ps,δ=[x,some (.ref n)]∧acc=List.map W.int ps∧ps.length=i∧(∀p∈ps,Eu p 1=true)∧Fr [n] S0 T∧T[n]?=some (stD (k+(i:Int)))) ?_ ?_ ⟨none,[],rfl,rfl,rfl,fun _ h=>(nomatch h),f3,by rw[show k+((0:Nat):Int)=k by omega];exact e3.at0 (e2.at0 (e1.at0 hN))⟩
  .rintro i w δ acc T hw ⟨x,ps,rfl,rfl,hl,hps,fT,hT⟩
   have hi:i < ks.length+1:=by
    have:=(List.getElem?_eq_some_iff.mp hw).1
    rw[List.length_map,List.length_range] at this
    exact this
   refine⟨_,rfl,Jt (if_pos rfl ▸ ?_)⟩
   refine Ga (Ih (Ga ?_))
   refine G8 rfl hT (by omega) (by omega) fun a T1 g1 g2 ha=>Ih ?_
   refine Bw (Cp (j:=4095) (by decide)) fun T2 g3=>Bw Cm fun T3 g4=>?_
   refine⟨by rw[List.length_map,hl];unfold big;omega,_,ps ++ [1+a % 4095],rfl,by rw[List.map_append];rfl,by rw[List.length_append,hl];rfl,?_,?_,?_⟩
   .intro u hu
    rcases List.mem_append.mp hu with h|h
    .exact hps u h
    .rw[List.mem_singleton.mp h]
     unfold Eu
     simp only[Bool.and_eq_true,decide_eq_true_eq]
     omega
   .exact(fT.same g1).then0 (g3.then0 g4)
   .rw[g4.at0 (g3.at0 g2),show k+(i:Int)+1=k+((i+1:Nat):Int) by omega]
  .rintro δ acc T ⟨x,ps,rfl,rfl,hl,hps,fT,hT⟩
   rw[List.length_map,List.length_range] at hl hT
   refine⟨by rw[List.length_map,hl];unfold big;omega,Dg (Tc Ii (Dg ⟨by show 3≤big;decide,?_⟩))⟩
   refine⟨k+((ks.length+1:Nat):Int),fT.then0 .app,Fr.app.at0 hT,by omega,by omega,.fork ks ps,⟨⟨by omega,hK.ok,Ou hK.rise⟩,hl,hps⟩,rfl,?_⟩
   rw[Yc ks ps hl]
   omega
end
section
variable {P:SP} {ns:List Int} {n d r:Nat} {k:Int} {S:Store} {Q:W->Store->Prop} {δ:De} {ws:List W}
theorem Aky (i:Int) (hi:0≤i):∃v,atI [W.int 0,.int 1,.int 4095,.int (i / 7 % 4096)] (i / 7 % 4)=some (.int v)∧Eu v 0=true:=by
 have h4:i / 7 % 4=0∨i / 7 % 4=1∨i / 7 % 4=2∨i / 7 % 4=3:=by omega
 rcases h4 with h|h|h|h <;> rw[h]
 .exact⟨0,rfl,by decide⟩
 .exact⟨1,rfl,by decide⟩
 .exact⟨4095,rfl,by decide⟩
 .refine⟨_,rfl,?_⟩
  unfold Eu
  simp only[Bool.and_eq_true,decide_eq_true_eq]
  omega
theorem Aov (i size:Int) (hi:0≤i) (h1:64≤size) (h2:size≤200):∃L:Nat,atI [W.int 1,.int (size - 7),.int (1+i / 7 % (size - 7))] (i / 7 % 3)=some (.int (L:Int))∧1≤L∧(L:Int)≤size - 7:=by
 have h3:i / 7 % 3=0∨i / 7 % 3=1∨i / 7 % 3=2:=by omega
 have z1:=Int.emod_nonneg (i / 7) (show size - 7≠0 by omega)
 have z2:=Int.emod_lt_of_pos (i / 7) (show 0 < size - 7 by omega)
 rcases h3 with h|h|h <;> rw[h]
 .exact⟨1,rfl,by omega,by omega⟩
 .refine⟨(size - 7).toNat,?_,by omega,by omega⟩
  rw[Int.toNat_of_nonneg (by omega)];rfl
 .refine⟨(1+i / 7 % (size - 7)).toNat,?_,by omega,by omega⟩
  rw[Int.toNat_of_nonneg (by omega)];rfl
theorem Akz (i:Int) (hi:0≤i):∃v,atI [W.int 0,.int (i / 21 % 4096)] (i / 7 % 2)=some (.int v)∧Eu v 0=true:=by
 have h4:i / 7 % 2=0∨i / 7 % 2=1:=by omega
 rcases h4 with h|h <;> rw[h]
 .exact⟨0,rfl,by decide⟩
 .refine⟨_,rfl,?_⟩
  unfold Eu
  simp only[Bool.and_eq_true,decide_eq_true_eq]
  omega
theorem Atm {size:Int} (h1:64≤size) (h2:size≤200) (h:S[n]?=some (stD k)) (h0:0≤k) (hk:k+100≤900000) (q:∀w S',R5 n 31 k S (Fits size) w S'->Q w S'):Wm (Om ns [.ref n,.int size]) S Q:=by
 refine Dj (Q:=R5 n 31 k S (Fits size)) ?_ q
 have hnl:n < S.length:=Dy h
 refine Td rfl ?_
 refine Ds (G8 rfl h h0 (by omega) fun i S1 f1 g1 hi=>?_)
 refine Ds (Bw (a:=W.int (i % 7)) (Al (Af rfl) Ae (Cp (j:=7) (by decide))) fun S2 f2=>?_)
 have fr2:Fr [n] S S2:=f1.then0 f2
 have g2:=f2.at0 g1
 have eqT:∀{T:Store} {c:Int} {K:Bool->Store->Prop} {δ:De},δ[3]?=some (some (.int (i % 7)))->(∀T',Fr [] T T'->K (i % 7==c) T')->Wm (Az (Bc .Eq (Ac 3) (kF (.int c))) δ) T K:=fun hv k=>Bw (Aj (Ao (Af hv) Ae J5)) k
 have ife:∀{c:Int},(i % 7==c)=decide (i % 7=c):=fun {c}=>by
  by_cases hc:i % 7=c
  .rw[decide_eq_true hc,hc];exact beq_self_eq_true c
  .rw[decide_eq_false hc];exact beq_eq_false_iff_ne.mpr hc
 by_cases c0:i % 7=0
 .refine Xc (eqT rfl fun S3 f3=>⟨by rw[ife];exact decide_eq_true c0,?_⟩)
  refine Ah8 (Atj h1 (f3.at0 g2) (by omega) (by omega) ⟨_,_,_,_,_,_,_,rfl⟩) fun w T ⟨k',e1,e2,e3,e4,e5⟩=>⟨k',(fr2.then0 f3).same e1,e2,by omega,by omega,e5⟩
 refine Ij (eqT rfl fun S3 f3=>⟨by rw[ife];exact decide_eq_false c0,?_⟩)
 have fr3:=fr2.then0 f3
 have g3:=f3.at0 g2
 by_cases c1:i % 7=1
 .refine Xc (eqT rfl fun S4 f4=>⟨by rw[ife];exact decide_eq_true c1,?_⟩)
  obtain⟨v,ev,hv⟩:=Aky i hi
  refine Kz (Bw (a:=Pg.w (.free v)) (Kw (Ab Ae (Ab (Uh (Ab Ae (Ab Ae (Ab Ae (Ab (Al (Al (Af rfl) Ae (Di (j:=7) (by decide) (by decide))) Ae (Cp (j:=4096) (by decide))) Ag)))) (by show 4≤big;decide) (Al (Al (Af rfl) Ae (Di (j:=7) (by decide) (by decide))) Ae (Cp (j:=4) (by decide))) ev) Ag)) (by show 2≤big;decide)) fun S5 f5=>?_)
  refine⟨k+1,(fr3.then0 f4).then0 f5,f5.at0 (f4.at0 g3),by omega,by omega,.free v,hv,rfl,?_⟩
  show ((Ia [v]).length:Int)≤size - 5
  rw[Fq]
  show ((2 * 1:Nat):Int)≤_
  omega
 refine Ij (eqT rfl fun S4 f4=>⟨by rw[ife];exact decide_eq_false c1,?_⟩)
 have fr4:=fr3.then0 f4
 have g4:=f4.at0 g3
 by_cases c2:i % 7=2
 .refine Xc (eqT rfl fun S5 f5=>⟨by rw[ife];exact decide_eq_true c2,?_⟩)
  obtain⟨L,eL,L1,L2⟩:=Aov i size hi h1 h2
  obtain⟨v,ev,hv⟩:=Akz i hi
  refine Ds (Bw (a:=W.int (L:Int)) (Uh (Ab Ae (Ab (Al (Af rfl) Ae Gr) (Ab (Al Ae (Al (Al (Af rfl) Ae (Di (j:=7) (by decide) (by decide))) (Al (Af rfl) Ae Gr) (Cp (j:=size - 7) (by omega))) Cm) Ag))) (by show 3≤big;decide) (Al (Al (Af rfl) Ae (Di (j:=7) (by decide) (by decide))) Ae (Cp (j:=3) (by decide))) eL) fun S6 f6=>?_)
  refine Kz (Bw (a:=Pg.w (.rest (lawT i L) v)) (Kw (Ab Ae (Ab (Ai (Ab (Af rfl) (Ab (Af rfl) Ag)) (Acl (by omega))) (Ab (Uh (Ab Ae (Ab (Al (Al (Af rfl) Ae (Di (j:=21) (by decide) (by decide))) Ae (Cp (j:=4096) (by decide))) Ag)) (by show 2≤big;decide) (Al (Al (Af rfl) Ae (Di (j:=7) (by decide) (by decide))) Ae (Cp (j:=2) (by decide))) ev) Ag))) (by show 3≤big;decide)) fun S7 f7=>?_)
  refine⟨k+1,((fr4.then0 f5).then0 f6).then0 f7,f7.at0 (f6.at0 (f5.at0 g4)),by omega,by omega,.rest (lawT i L) v,⟨Ack i L,by rw[Ot];exact L1,by rw[Ot];omega,hv⟩,rfl,?_⟩
  show ((Ia [v] ++ lawT i L).length:Int)≤size - 5
  rw[len_app,Fq,Ot]
  show ((2 * 1+L:Nat):Int)≤_
  omega
 refine Ij (eqT rfl fun S5 f5=>⟨by rw[ife];exact decide_eq_false c2,?_⟩)
 have fr5:=fr4.then0 f5
 have g5:=f5.at0 g4
 obtain⟨m,em,hm⟩:∃m:Nat,i / 7 % 14=(m:Int)∧m≤13:=⟨(i / 7 % 14).toNat,by omega,by omega⟩
 refine Ds (Dz (Bl (Ei rfl (Bl (Bw (a:=W.int (m:Int)) ((Al (Al (Af rfl) Ae (Di (j:=7) (by decide) (by decide))) Ae (Cp (j:=14) (by decide))).cast (by rw[em])) fun S6 f6=>Dg (Akv hm (f6.at0 g5) (by omega) (by omega) fun r keys k' S7 f7 g7 q1 q2 hr hrl kl kk kr=>?_))))))
 have fr7:Fr [n] S S7:=(fr5.then0 f6).same f7
 have hrS:S.length≤r:=by
  have:=(fr5.then0 f6).len
  omega
 refine Abv (Bw (a:=decide (i % 7 < 5)) (Aj (Ao (Af rfl) Ae Zq)) fun S8 f8=>?_)
 by_cases c3:i % 7 < 5
 .rw[if_pos (decide_eq_true c3)]
  exact Ah8 (Atk h1 h2 hi (k0:=k) (fr7.then0 f8) (f8.at0 g7) (by omega) (by omega) (by omega) (by omega) (f8.at0 hr) hrS kl kk kr ⟨_,_,_,_,rfl⟩ hnl) fun w T ⟨k',e1,e2,e3,e4,e5⟩=>⟨k',e1,e2,e3,by omega,e5⟩
 .rw[if_neg (by rw[decide_eq_false c3];exact Bool.false_ne_true)]
  refine Jc ?_
  exact An4 (Atl h1 h2 hi (k0:=k) (fr7.then0 f8) (f8.at0 g7) (by omega) (by omega) (by omega) (by omega) (f8.at0 hr) hrS ⟨kl,kk,kr⟩ ⟨_,_,_,_,rfl⟩ hnl) fun w T ⟨k',e1,e2,e3,e4,e5⟩=>⟨k',e1,e2,e3,by omega,e5⟩
end
theorem Bc0:(("rest":Str)=="rest")=true:=by decide +kernel
theorem Bc1:(("leaf":Str)=="rest")=false:=by decide +kernel
theorem Bc2:(("leaf":Str)=="leaf")=true:=by decide +kernel
theorem Bc3:(("fork":Str)=="rest")=false:=by decide +kernel
theorem Bc4:(("fork":Str)=="leaf")=false:=by decide +kernel
theorem Ax9 {b b':MS} {δ:De} {S S1:Store} {w:W} (e:b δ S=.rt w S1):Ak b b' δ S=.rt w S1:=by
 unfold Ak
 rw[e]
theorem Aya {exm:Nat->Bool} {i:Nat} {b su:MS} {δ δ1:De} {S S1 S2:Store} {c:Nat×W} {w:W} (e:b δ S=.ex c δ1 S1) (hm:exm c.1=true) (e2:su (δ1.set i (some (.exn c.1 c.2))) S1=.rt w S2):Ajz exm i b su δ S=.rt w S2:=by
 unfold Ajz
 rw[e]
 dsimp only
 rw[if_pos hm,e2]
theorem Aip (c:Nat) (m:Int):(Txt.mul ⟨#[c]⟩ m).cps=Array.replicate m.toNat c:=by
 apply Array.ext'
 rw[mul_one_list,Array.toList_replicate]
theorem Acm (c:Nat) (m:Int):(Txt.mul ⟨#[c]⟩ m).length=m.toNat:=by
 show (Txt.mul ⟨#[c]⟩ m).cps.size=_
 rw[Aip,Array.size_replicate]
theorem Aow {c:Nat} (h:M2.okC c=true) (m:Int):M2.Ea (Txt.mul ⟨#[c]⟩ m)=true:=by
 unfold M2.Ea
 rw[Aip,Array.toList_replicate,List.all_eq_true]
 intro x hx
 rw[(List.mem_replicate.mp hx).2]
 exact h
def Atn (size:Int) (w:W):Prop:=∃p:Pg,p.ok∧w=p.w∧size - 5 < (p.body.length:Int)∧p.body.length≤1000
def Qw (i:Nat):Str:=(⟨#[107,101,121]⟩:Str) ++ M1.Cw 2 (i:Int)
theorem Ato:∀i,i < 30->isKey (Qw i)=true:=by decide +kernel
theorem Aox (i:Nat):(Qw i).length=5:=by
 unfold Qw
 rw[len_app,Bj]
 rfl
theorem Atp:∀j,j < 30->∀i,i < j->Je (Qw i) (Qw j)=true:=by decide +kernel
theorem Ak0 (m:Nat) (h:m≤30):Qv ((List.range m).map Qw):=by
 refine List.pairwise_map.mpr ?_
 refine List.Pairwise.imp_of_mem ?_ (List.pairwise_lt_range (n:=m))
 intro a b ha hb hab
 exact Atp b (by have:=List.mem_range.mp hb;omega) a hab
def Ng (i:Nat):Str:=(⟨#[122]⟩:Str) ++ M1.Cw 1 (i:Int)
theorem Atq:∀i,i < 45->isKey (Ng i)=true:=by decide +kernel
theorem Ae5 (i:Nat):(Ng i).length=2:=by
 unfold Ng
 rw[len_app,Bj]
 rfl
theorem Atr:∀j,j < 45->∀i,i < j->(Ng i==Ng j)=false:=by decide +kernel
theorem Ag3 (m:Nat) (h:m≤45):((List.range m).map Ng).Nodup:=by
 unfold List.Nodup
 rw[List.pairwise_map]
 refine List.Pairwise.imp_of_mem ?_ (List.pairwise_lt_range (n:=m))
 intro a b ha hb hab
 exact beq_eq_false_iff_ne.mp (Atr b (by have:=List.mem_range.mp hb;omega) a hab)
theorem Qx:∀{ks:List Str},(∀z∈ks,z.length=2)->M6 ks=3 * (ks.length:Int)
 |[],_=>rfl
 |z::ks,h=>by
  have ih:=Qx (ks:=ks) fun y hy=>h y (List.mem_cons_of_mem _ hy)
  unfold M6 at ih ⊢
  rw[List.map_cons,List.sum_cons,ih,h z List.mem_cons_self,List.length_cons]
  omega
section
variable {P:SP} {ns:List Int} {n d r:Nat} {k:Int} {S:Store} {Q:W->Store->Prop} {δ:De} {ws:List W}
theorem Aiq {z:Str} {m:Int} (h1:z.length≤16) (h2:0≤m) (h3:m≤1048576):Pu P (Bop.fn .mul (.str z) (.int m)) (.str (Txt.mul z m)):=
 Kp (by rw[decide_eq_true h1,decide_eq_true h2,decide_eq_true h3];rfl) Pu.pure
theorem Air {i:Nat} {p:Pg} (hv:δ[i]?=some (some p.w)):Pu P (ixF ns (Ac i) (kF (.int 0)) δ) (.str p.word):=by
 obtain⟨ws,e⟩:=Acg p
 rw[e] at hv
 exact Aw (Af hv) Ae (Aq ix0)
theorem Ae6 {i:Nat} {p:Pg} {z:Str} (hv:δ[i]?=some (some p.w)):Pu P (Az (Bc .Eq (ixF ns (Ac i) (kF (.int 0))) (kF (.str z))) δ) (p.word==z):=Aj (Ao (Air hv) Ae Anw)
theorem Ag4 {t:Str} {v size:Int} (h1:64≤size) (h2:size≤200) (hp:Pg.ok (.rest t v)) (hb:((Pg.rest t v).body.length:Int)≤size - 5) (h:S[n]?=some (stD k)) (h0:0≤k) (hk:k+100≤900000):Wm (Fj ns [.ref n,Pg.w (.rest t v),.int size]) S (R5 n 100 k S (Atn size)):=by
 have hbl:((Pg.rest t v).body.length:Int)=2+(t.length:Int):=by
  show ((Ia [v] ++ t).length:Int)=_
  rw[len_app,Fq]
  show ((2 * 1+t.length:Nat):Int)=_
  omega
 refine Td rfl ?_
 refine Xc (Bw (Ae6 (p:=.rest t v) rfl) fun S1 f1=>⟨Bc0,?_⟩)
 have g1:=f1.at0 h
 refine Kz (Sy (Bl (Ih (Bl (Ga ?_)))))
 refine Bw (a:=W.str t) (Aw (Af rfl) Ae (Aq rfl)) fun S2 f2=>?_
 refine Ga (Ih (Ga ?_))
 refine Bw (a:=W.int (size - 7 - (t.length:Int)+1)) (Al (Al (Al (Af rfl) Ae Gr) (Ai (Ab (Aw (Af rfl) Ae (Aq rfl)) Ag) (len_str (z:=t) (Nat.le_trans hp.2.2.1 (by decide)))) Gr) Ae Cm) fun S3 f3=>?_
 refine Ga ?_
 refine G8 rfl (f3.at0 (f2.at0 g1)) h0 (by omega) fun a S4 f4 g4 ha=>?_
 refine Ih ?_
 refine Bw (Cp (j:=2) (by decide)) fun S5 f5=>?_
 refine Bw Cm fun S6 f6=>?_
 have hm0:0≤a % 2:=Int.emod_nonneg _ (by decide)
 have hm1:a % 2 < 2:=Int.emod_lt_of_pos _ (by decide)
 generalize hM:size - 7 - (t.length:Int)+1+a % 2=M
 have hMl:(Txt.mul ⟨#[120]⟩ M).length=M.toNat:=Acm 120 M
 refine Bw (a:=W.str (Txt.mul ⟨#[120]⟩ M)) (Aiq (z:=⟨#[120]⟩) (by decide) (by omega) (by omega)) fun S7 f7=>?_
 refine Bw (Bs (by rw[hMl];have:=hp.2.2.1;unfold big;omega)) fun S8 f8=>?_
 refine Bl (Bw (a:=W.int v) (Aw (Af rfl) Ae (Aq rfl)) fun S9 f9=>Dg ⟨by show 3≤big;decide,?_⟩)
 have fr:Fr [] S4 S9:=((((f5.then0 f6).then0 f7).then0 f8).then0 f9)
 have hL:(t ++ Txt.mul ⟨#[120]⟩ M).length=t.length+M.toNat:=by rw[len_app,hMl]
 refine⟨k+1,(((f1.then0 f2).then0 f3).of0.same f4).then0 fr,fr.at0 g4,by omega,by omega,.rest (t ++ Txt.mul ⟨#[120]⟩ M) v,⟨?_,by rw[hL];omega,by rw[hL];omega,hp.2.2.2⟩,rfl,?_,?_⟩
 .rw[G4,hp.1,Aow (by decide)];rfl
 .show size - 5 < ((Ia [v] ++ (t ++ Txt.mul ⟨#[120]⟩ M)).length:Int)
  rw[len_app,Fq,hL]
  show size - 5 < ((2 * 1+(t.length+M.toNat):Nat):Int)
  omega
 .show (Ia [v] ++ (t ++ Txt.mul ⟨#[120]⟩ M)).length≤1000
  rw[len_app,Fq,hL]
  show 2 * 1+(t.length+M.toNat)≤1000
  omega
structure Ae7 (rs:List (Str×Cl)) (size:Int):Prop where
 keys:rs.map (·.1)=(List.range rs.length).map Qw
 ok:∀r∈rs,r.2.ok=true
 lo:1+8 * rs.length≤(Pg.leaf rs).body.length
 hi:((Pg.leaf rs).body.length:Int)≤size+6
theorem Ae7.few {rs:List (Str×Cl)} {size:Int} (h:Ae7 rs size) (h2:size≤200):rs.length≤25:=by
 have:=h.lo
 have:=h.hi
 omega
theorem Ae7.pg {rs:List (Str×Cl)} {size:Int} (h:Ae7 rs size) (h2:size≤200):Pg.ok (.leaf rs):=by
 have hf:=h.few h2
 refine⟨by omega,fun r hr=>⟨?_,h.ok r hr⟩,Ou ?_⟩
 .have:r.1∈rs.map (·.1):=List.mem_map.mpr ⟨r,hr,rfl⟩
  rw[h.keys] at this
  obtain⟨i,hi,e⟩:=List.mem_map.mp this
  have hi:=List.mem_range.mp hi
  rw[←e]
  exact Ato i (by omega)
 .rw[h.keys]
  exact Ak0 _ (by omega)
theorem Aak (rs:List (Str×Cl)) (r:Str×Cl):(Pg.leaf (rs ++ [r])).body.length=(Pg.leaf rs).body.length+(Hu r).length:=by
 show (M1.Cw 1 (rs ++ [r]).length ++ jn ((rs ++ [r]).map Hu)).length=(M1.Cw 1 rs.length ++ jn (rs.map Hu)).length+_
 rw[len_app,len_app,Bj,Bj,List.map_append,List.map_cons,List.map_nil,Vz,len_app]
 omega
def Yd (m:Int):Cl:=.inn (Txt.mul ⟨#[121]⟩ m)
theorem Aoy {m:Int} (h0:0≤m) (h1:m < 4):(Yd m).ok=true:=by
 show (M2.Ea (Txt.mul ⟨#[121]⟩ m)&&decide ((Txt.mul ⟨#[121]⟩ m).length≤63))=true
 rw[Aow (by decide),Acm,Bool.true_and,decide_eq_true_eq]
 omega
theorem Aoz {m:Int} (i:Nat) (h0:0≤m) (h1:m < 4):8≤(Hu (Qw i,Yd m)).length∧(Hu (Qw i,Yd m)).length≤11:=by
 have e:(Hu (Qw i,Yd m)).length=8+m.toNat:=by
  show (Gz (Qw i) ++ Cl.t (.inn (Txt.mul ⟨#[121]⟩ m))).length=_
  unfold Gz Cl.t
  rw[len_app,len_app,len_app,len_app,Bj,Bj,Aox,Acm]
  show 1+5+(1+1+m.toNat)=_
  omega
 omega
theorem Ae7.more {rs:List (Str×Cl)} {size m:Int} (h:Ae7 rs size) (hb:((Pg.leaf rs).body.length:Int)≤size - 5) (h0:0≤m) (h1:m < 4):Ae7 (rs ++ [(Qw rs.length,Yd m)]) size:=by
 have hr:=Aoz rs.length h0 h1
 refine⟨?_,fun r hr=>?_,?_,?_⟩
 .rw[List.map_append,h.keys,List.length_append,List.length_singleton,List.range_succ,List.map_append]
  rfl
 .rcases List.mem_append.mp hr with z|z
  .exact h.ok r z
  .rw[List.mem_singleton.mp z];exact Aoy h0 h1
 .rw[Aak,List.length_append,List.length_singleton]
  have:=h.lo
  omega
 .rw[Aak]
  omega
theorem Ag5 {rs0:List (Str×Cl)} {size:Int} (h1:64≤size) (h2:size≤200) (h:S[n]?=some (stD k)) (h0:0≤k) (hk:k+100≤900000):Wm (Fj ns [.ref n,Pg.w (.leaf rs0),.int size]) S (R5 n 100 k S (Atn size)):=by
 have hnl:n < S.length:=Dy h
 refine Td rfl ?_
 refine Ij (Bw (Ae6 (p:=.leaf rs0) rfl) fun S1 f1=>⟨Bc1,?_⟩)
 refine Xc (Bw (Ae6 (p:=.leaf rs0) rfl) fun S2 f2=>⟨Bc2,?_⟩)
 refine Ds (W9 (Dg ⟨Nat.zero_le _,?_⟩))
 have f12:=f1.then0 f2
 generalize hR:S2.length=R
 have hRl:S.length≤R:=by rw[←hR];exact f12.len
 have g3:(S2 ++ [Cell.lst []])[n]?=some (stD k):=Fr.app.at0 (f12.at0 h)
 have r3:(S2 ++ [Cell.lst []])[R]?=some (.lst []):=by rw[←hR];exact Ii
 refine Rc (fuel:=fuel) (m:=100) (J:=fun m δ U=>∃rs,δ=[some (.ref n),some (Pg.w (.leaf rs0)),some (.int size),some (.ref R),none,none]∧m=100 - rs.length∧Ae7 rs size∧U[R]?=some (.lst (rs.map Km))∧Fr [n] S U∧U[n]?=some (stD (k+(rs.length:Int))))
  ⟨[],rfl,rfl,⟨rfl,fun _ h=>(nomatch h),by decide +kernel,by show (1:Int)≤size+6;omega⟩,r3,(f12.then0 .app).of0,by rw[show k+(([]:List (Str×Cl)).length:Int)=k by show k+0=k;omega];exact g3⟩ (by unfold fuel;omega) ?_
 rintro m δ U ⟨rs,rfl,rfl,hG,hU,fU,hN⟩
 have hf:=hG.few h2
 have hok:=hG.pg h2
 have hhi:=hG.hi
 refine J6 (P:=SP.any.at R (rs.map Km)) (a:=decide (((Pg.leaf rs).body.length:Int)≤size - 5)) (Aj (Ao (Ai (Ab (Ai (Ab (Kw (Ab Ae (Ab (Mf (fun _ h=>h.2) rfl) Ag)) (by show 2≤big;decide)) Ag) (Kg hok)) Ag) (len_str (by unfold big;omega))) (Al (Af rfl) Ae Gr) Lk)) ⟨trivial,hU⟩ fun U1 e1=>?_
 by_cases hc:((Pg.leaf rs).body.length:Int)≤size - 5
 .rw[if_pos (decide_eq_true hc)]
  refine Vv (Abu (P:=SP.any) (Af rfl) trivial (e1.at0 hU) fun U2 e2=>?_)
  have hU2:=e2.at0 (e1.at0 hU)
  refine Bl (Sy (Bl ?_))
  refine J6 (P:=SP.any.at R (rs.map Km)) (a:=W.str (Qw rs.length)) (Al Ae (Ai (Ab (Pu.cast (a':=W.int (rs.length:Int)) (R6 (fun _ h=>h.2) rfl) (by rw[List.length_map])) (Ab Ae Ag)) (X8 (by omega))) (Bs (by rw[Bj];decide +kernel))) ⟨trivial,hU2⟩ fun U3 e3=>?_
  refine Bl (Sy (Bl (Ih (Bl (Ga (Ih (Ga ?_)))))))
  refine G8 rfl (e3.at0 (e2.at0 (e1.at0 hN))) (by omega) (by omega) fun a U4 e4 g4 ha=>?_
  refine Ih ?_
  refine Bw (Cp (j:=4) (by decide)) fun U5 e5=>?_
  have hm0:0≤a % 4:=Int.emod_nonneg _ (by decide)
  have hm1:a % 4 < 4:=Int.emod_lt_of_pos _ (by decide)
  refine Bw (a:=W.str (Txt.mul ⟨#[121]⟩ (a % 4))) (Aiq (z:=⟨#[121]⟩) (by decide) hm0 (by omega)) fun U6 e6=>?_
  refine Dg ⟨by show 2≤big;decide,Dg ⟨by show 2≤big;decide,Dg ?_⟩⟩
  have fr:Fr [n] U U6:=((((e1.then0 e2).then0 e3).of0.same e4).then0 e5).then0 e6
  have hRn:R≠n:=by omega
  refine Zt (fr.at1 hU hRn) (by rw[List.length_map];unfold big;omega) ?_
  refine Jc ⟨100 - (rs ++ [(Qw rs.length,Yd (a % 4))]).length,by rw[List.length_append,List.length_singleton];omega,rs ++ [(Qw rs.length,Yd (a % 4))],rfl,rfl,hG.more hc hm0 hm1,?_,?_,?_⟩
  .rw[List.map_append]
   exact Qf (Dy (fr.at1 hU hRn))
  .exact(fU.same fr).trans Fr.set fun i hi=>.inr (by rw[List.mem_singleton.mp hi];exact hRl)
  .rw[List.getElem?_set_ne hRn,(e5.then0 e6).at0 g4,List.length_append,List.length_singleton,show k+(rs.length:Int)+1=k+((rs.length+1:Nat):Int) by omega]
 .rw[if_neg (by rw[decide_eq_false hc];exact Bool.false_ne_true)]
  refine Kz (J6 (P:=SP.any.at R (rs.map Km)) (Kw (Ab Ae (Ab (Mf (fun _ h=>h.2) rfl) Ag)) (by show 2≤big;decide)) ⟨trivial,e1.at0 hU⟩ fun U2 e2=>?_)
  exact⟨k+(rs.length:Int),(fU.then0 e1).then0 e2,e2.at0 (e1.at0 hN),by omega,by omega,.leaf rs,hok,rfl,by omega,by omega⟩
theorem Ag6 {ks0:List Str} {ps0:List Int} {size:Int} (h1:64≤size) (h2:size≤200) (h:S[n]?=some (stD k)) (h0:0≤k) (hk:k+100≤900000):Wm (Fj ns [.ref n,Pg.w (.fork ks0 ps0),.int size]) S (R5 n 100 k S (Atn size)):=by
 refine Td rfl ?_
 refine Ij (Bw (Ae6 (p:=.fork ks0 ps0) rfl) fun S1 f1=>⟨Bc3,?_⟩)
 refine Ij (Bw (Ae6 (p:=.fork ks0 ps0) rfl) fun S2 f2=>⟨Bc4,?_⟩)
 refine Ds (Ih ?_)
 have f12:=f1.then0 f2
 refine Rc (fuel:=fuel) (m:=99) (J:=fun m δ U=>∃q:Nat,δ=[some (.ref n),some (Pg.w (.fork ks0 ps0)),some (.int size),none,some (.int (q:Int)),none]∧m=100 - q∧1≤q∧5 * ((q:Int) - 1)+3≤size - 5∧Fr [] S U) ⟨1,rfl,rfl,by omega,by omega,f12⟩ (by unfold fuel;omega) ?_
 rintro m δ U ⟨q,rfl,rfl,q1,q2,fU⟩
 have hsm:small (q:Int)=true:=Ae4 (by omega) (by omega)
 refine Bw (a:=decide (1+3 * (q:Int)+2 * (q:Int)+2≤size - 5)) (Aj (Ao (Al (Al (Al Ae (Al Ae (Af rfl) (Gs (by rw[hsm,Bool.or_true]))) Cm) (Al Ae (Af rfl) (Gs (by rw[hsm,Bool.or_true]))) Cm) Ae Cm) (Al (Af rfl) Ae Gr) Lk)) fun U1 e1=>?_
 by_cases hc:1+3 * (q:Int)+2 * (q:Int)+2≤size - 5
 .rw[if_pos (decide_eq_true hc)]
  refine Ds (Bw (Al (Af rfl) Ae Cm) fun U2 e2=>?_)
  exact Jc ⟨100 - (q+1),by omega,q+1,rfl,rfl,by omega,by omega,(fU.then0 e1).then0 e2⟩
 .rw[if_neg (by rw[decide_eq_false hc];exact Bool.false_ne_true)]
  have hq:q≤40:=by omega
  have hp:=Ho ((List.range q).map Ng)
  have hlen:(Jl ((List.range q).map Ng)).length=q:=by rw[hp.length_eq,List.length_map,List.length_range]
  have hmem:∀z∈Jl ((List.range q).map Ng),∃i,i < 45∧z=Ng i:=fun z hz=>by
   obtain⟨i,hi,e⟩:=List.mem_map.mp (hp.mem_iff.mp hz)
   exact⟨i,by have:=List.mem_range.mp hi;omega,e.symm⟩
  have hcomp:=Fl (P:=SP.any) (xs:=List.range q) (φ:=fun(k:Nat)=>W.int ((0:Int)+(k:Int))) (ψ:=fun k=>W.str (Ng k)) (t:=fun _=>pure true) (e:=Ar .add (kF (.str "z")) (Ah (Be ns) (Aa (Ac 0) (Aa (kF (.int 1)) nilF)))) (cs:=[]) (cap:=[]) (δ:=[some (.ref n),some (Pg.w (.fork ks0 ps0)),some (.int size),none,some (.int (q:Int)),none]) (src:=Lh Hq (Aa (Ac 4) nilF))
   (Hc (Ab (Af rfl) Ag) (by unfold big;omega)) rfl (by rw[List.length_range];unfold big;omega) (fun i hi=>⟨Pu.pure,Al Ae ((Ai (Ab (Af rfl) (Ab Ae Ag)) (Aag (n:=0+(i:Int)) (by omega))).cast (by rw[Int.zero_add])) (Bs (by rw[Bj];decide +kernel))⟩)
  refine Ds (Dz (Bl (Abs hcomp trivial fun r U2 e2 hr hrl=>Dg ?_)))
  refine An3 (ss:=(List.range q).map Ng) (by rw[List.map_map];exact hr) (by rw[List.length_map,List.length_range];omega) ?_
  have r3:(U2 ++ [Cell.lst ((Jl ((List.range q).map Ng)).map W.str)])[U2.length]?=some (.lst ((Jl ((List.range q).map Ng)).map W.str)):=Ii
  generalize U2.length=R at r3
  have f3:Fr [] S (U2 ++ [Cell.lst ((Jl ((List.range q).map Ng)).map W.str)]):=((fU.then0 e1).then0 e2).then0 .app
  generalize U2 ++ [Cell.lst ((Jl ((List.range q).map Ng)).map W.str)]=U3 at r3 f3
  refine Kz (Sy (Bl (Ih (Bl ?_))))
  refine J6 (P:=SP.any.at R _) (Mf (fun _ h=>h.2) rfl) ⟨trivial,r3⟩ fun U4 e4=>?_
  refine Bl (Dz (Bl (Ga (W9 (Bl (Ih (Dg ⟨by decide,?_⟩)))))))
  refine Bw (Al (Af rfl) Ae Cm) fun U5 e5=>?_
  have r5:U5[U4.length]?=some (.lst [.int 7]):=e5.at0 Ii
  have hz:(List.replicate ((q:Int)+1).toNat [W.int 7]).flatten=(List.replicate (q+1) 7).map W.int:=by
   rw[show ((q:Int)+1).toNat=q+1 by omega,List.map_replicate]
   induction q+1 with
   |zero=>rfl
   |succ m ih=>rw[List.replicate_succ,List.flatten_cons,ih,List.replicate_succ];rfl
  refine⟨.ref U5.length,U5 ++ [.lst ((List.replicate (q+1) 7).map W.int)],?_,Dg (Tc Ii (Dg ⟨by show 3≤big;decide,?_⟩))⟩
  .show Amg (.ref U4.length) (.int ((q:Int)+1)) U5=_
   unfold Amg
   dsimp only
   rw[r5]
   dsimp only
   rw[hz,if_pos]
   have e63:(2:Int) ^ 63=9223372036854775808:=by decide +kernel
   rw[e63,Bool.and_eq_true,Bool.and_eq_true,decide_eq_true_eq,decide_eq_true_eq,decide_eq_true_eq]
   refine⟨⟨by omega,by omega⟩,?_⟩
   show 1 * ((q:Int)+1).toNat≤big
   unfold big
   omega
  .have fin:Fr [] S (U5 ++ [.lst ((List.replicate (q+1) 7).map W.int)]):=((f3.then0 (e4.then0 .app)).then0 e5).then0 .app
   refine⟨k,fin.of0,fin.at0 h,by omega,by omega,.fork (Jl ((List.range q).map Ng)) (List.replicate (q+1) 7),⟨⟨by omega,fun z hz=>?_,Ou (Px (Ag3 q (by omega)))⟩,by rw[List.length_replicate,hlen],fun p hp=>by rw[(List.mem_replicate.mp hp).2];decide⟩,rfl,?_,?_⟩
   .obtain⟨i,hi,rfl⟩:=hmem z hz
    exact Atq i hi
   .rw[Yc _ _ (by rw[List.length_replicate,hlen]),Qx (fun z hz=>by obtain⟨i,hi,rfl⟩:=hmem z hz;exact Ae5 i),hlen]
    omega
   .have:=Yc (Jl ((List.range q).map Ng)) (List.replicate (q+1) 7) (by rw[List.length_replicate,hlen])
    rw[Qx (fun z hz=>by obtain⟨i,hi,rfl⟩:=hmem z hz;exact Ae5 i),hlen] at this
    omega
theorem Ye {p:Pg} {w:W} {c:Nat} {b:Bool} (hX:PuX P (Dq ns [p.w,w]) (c,.non)) (hc:(c=4∧b=true)∨(c=3∧b=false)):Pu P (Du ns [p.w,w]) (.bl b):=fun S hS=>by
 obtain⟨G,e⟩:=hX S hS
 have e1:Ak (M7 (Ah (Dq ns) (Aa (Ac 0) (Aa (Ac 1) nilF)))) Am (Bp 3 [p.w,w]) S=.ex (c,.non) (Bp 3 [p.w,w]) (S ++ G):=by
  have e2:Ah (Dq ns) (Aa (Ac 0) (Aa (Ac 1) nilF)) (Bp 3 [p.w,w]) S=.exc (c,.non) (S ++ G):=e
  unfold Ak M7 El
  rw[e2]
 refine⟨G,?_⟩
 unfold Du Df
 rw[if_pos (show [p.w,w].length=2 from rfl)]
 have fin:Hf ns (Bp 3 [p.w,w]) S=.rt (.bl b) (S ++ G):=by
  unfold Hf
  refine Ax9 (Aya e1 ?_ ?_)
  .rcases hc with ⟨rfl,_⟩|⟨rfl,_⟩ <;> rfl
  .rcases hc with ⟨rfl,rfl⟩|⟨rfl,rfl⟩ <;> rfl
 rw[fin]
end
section
variable {P:SP} {ns:List Int} {n d r:Nat} {k:Int} {S:Store} {Q:W->Store->Prop} {δ:De} {ws:List W}
theorem text_len {p:Pg} {size:Int} (h1:64≤size) (hb:(p.body.length:Int)≤size - 5):((p.text size).length:Int)=size:=by
 unfold Pg.text
 rw[len_app,Ue,Oq hb]
 omega
theorem Ak1 (i j:Int) (hi:0≤i) (hj:0≤j):∃v,atI [W.int 64,.int 200,.int (64+i % 137)] (j % 3)=some (.int v)∧64≤v∧v≤200:=by
 have h5:j % 3=0∨j % 3=1∨j % 3=2:=by omega
 rcases h5 with h|h|h <;> rw[h]
 .exact⟨64,rfl,by omega,by omega⟩
 .exact⟨200,rfl,by omega,by omega⟩
 .exact⟨_,rfl,by omega,by omega⟩
theorem Ak2 (i:Int):Pu P (Jv ns [.int i,.int i]) (.bl true):=by
 apply Bq (ws:=[.int i,.int i]) rfl
 apply Bm
 apply Bf
 refine Cj (Ai (Ab (Af rfl) (Ab Ae Ag)) (fun S _=>⟨[],by rw[List.append_nil];rfl⟩)) (Cj ?_ ((Ao (Af rfl) (Af rfl) J5).cast (by rw[beq_self_eq_true])))
 exact Axt (p:=false) (Ai (Ab (Af rfl) (Ab Ae Ag)) (fun S _=>⟨[],by rw[List.append_nil];rfl⟩))
theorem Ais {i:Nat} {w:W} {j:Int} {g:De->M W} (h0:∀S,P.p S->AtL r ws S) (hv:δ[i]?=some (some (.ref r))) (hg:Pu P (g δ) (.int j)) (hj:atI ws j=some w):Pu P (ixF ns (Ac i) g δ) w:=
 Aw (Af hv) hg fun S hS=>⟨[],by
  have e:S[r]?=some (.lst ws):=h0 S hS
  unfold ixW
  dsimp only
  rw[e]
  dsimp only
  rw[hj,List.append_nil]
  rfl⟩
theorem Ae8 {is:List Int} {j:Nat} (h:j < is.length):atI (is.map W.int) ((0:Int)+(j:Int))=some (.int is[j]):=by
 rw[Int.zero_add]
 unfold atI
 rw[Aot (by omega) (by rw[List.length_map];omega),Int.toNat_natCast,Option.bind_some,List.getElem?_map,List.getElem?_eq_getElem h]
 rfl
theorem Ao0 {a:Nat} (h0:∀S,P.p S->AtL a ws S):Pu P (Jq isa [.ref a,.ty "list"]) (.bl true):=fun S hS=>⟨[],by
 have e:S[a]?=some (.lst ws):=h0 S hS
 rw[List.append_nil]
 unfold Jq tyW
 dsimp only
 rw[e]
 rfl⟩
theorem Ao1 {p:Pg}:Pu P (Hw .In (.str p.word) (.tup [.str "rest",.str "leaf",.str "fork"])) (.bl (match p with|.head ..=>false|.free ..=>false|_=>true)):=by
 cases p <;> exact fun S _=>⟨[],by rw[List.append_nil];rfl⟩
theorem Ao2 (v:Int):∃w,atI [W.int 63,.int 201,.non,.bl true] (v % 4)=some w∧(w=.int 63∨w=.int 201∨w=.non∨w=.bl true):=by
 have h4:v % 4=0∨v % 4=1∨v % 4=2∨v % 4=3:=by omega
 rcases h4 with h|h|h|h <;> rw[h]
 .exact⟨_,rfl,.inl rfl⟩
 .exact⟨_,rfl,.inr (.inl rfl)⟩
 .exact⟨_,rfl,.inr (.inr (.inl rfl))⟩
 .exact⟨_,rfl,.inr (.inr (.inr rfl))⟩
theorem Ak3 (ns:List Int) (_:ns.length≤63):∃S',Aic ns [.scr] []=.ok (.bl true) S':=by
 suffices h:Wm (Aic ns [.scr]) [] (fun w _=>w=.bl true) by
  obtain⟨w,S',e,rfl⟩:=h
  exact⟨S',e⟩
 refine Td rfl ?_
 refine Ds (f:=Nk [((kF (.str "cells")),(Ac 0)),((kF (.str "at")),(kF (.int 0)))]) ⟨.ref 0,[stD 0],?_,?_⟩
 .have:Jj [] [(.inr "cells",.scr),(.inr "at",.int 0)]=[((.inr "cells":Key),W.scr),(.inr "at",.int 0)]:=by kernel_rfl
  show R.ok (W.ref 0) [Cell.dct (Jj [] [(.inr "cells",.scr),(.inr "at",.int 0)])]=_
  rw[this]
  rfl
 refine An5 (P:=SP.any) (ws:=(List.range 3).map fun(k:Nat)=>W.int ((0:Int)+(k:Int))) (Hc (k:=3) (Ab Ae Ag) (by decide)) trivial fun S1 f1=>?_
 refine Ah9 (J:=fun i δ T=>∃k x2 x3 x4 x5 x6 x7 x8 x9,δ=[some .scr,some (.ref 0),x2,x3,x4,x5,x6,x7,x8,x9]∧T[0]?=some (stD k)∧0≤k∧k≤200 * (i:Int)) ?_ ?_ ⟨0,_,_,_,_,_,_,_,_,rfl,f1.at0 rfl,by omega,by omega⟩
 .rintro i w δ T hw ⟨k,x2,x3,x4,x5,x6,x7,x8,x9,rfl,hT,k0,k1⟩
  have hi:i < 3:=by
   have:=(List.getElem?_eq_some_iff.mp hw).1
   rw[List.length_map,List.length_range] at this
   exact this
  refine⟨_,rfl,?_⟩
  refine Ds (Aue (W9 ?_))
  refine Bl (Ih (Bl (Ih (Bl ?_))))
  refine Ga (Ih (Ga ?_))
  refine G8 rfl hT k0 (by omega) fun a T1 e1 g1 ha=>?_
  refine Ih ?_
  refine Bw (Cp (j:=137) (by decide)) fun T2 e2=>?_
  refine Bw Cm fun T3 e3=>Dg ⟨by show 3≤big;decide,?_⟩
  have g3:(T3 ++ [Cell.lst [.int 64,.int 200,.int (64+a % 137)]])[0]?=some (stD (k+1)):=Fr.app.at0 ((e2.then0 e3).at0 g1)
  have hne:T3.length≠0:=by
   have:=Dy ((e2.then0 e3).at0 g1)
   omega
  refine Ga ?_
  refine G8 rfl g3 (by omega) (by omega) fun b T4 e4 g4 hb=>?_
  refine Ih ?_
  refine Bw (Cp (j:=3) (by decide)) fun T5 e5=>?_
  obtain⟨size,es,s1,s2⟩:=Ak1 a b ha hb
  refine An1 (e5.at0 (e4.at1 Ii hne)) es ?_
  have g5:=e5.at0 g4
  clear e1 e2 e3 e4 g1 g3 hne es
  refine Ds (Dz (Bl (Ei rfl (Bl (Ei rfl (Dg (Atm s1 s2 g5 (by omega) (by omega) fun pw T6 hp=>?_)))))))
  obtain⟨k6,e6,g6,q1,q2,p,hok,rfl,hb⟩:=hp
  have hb2:(p.body.length:Int)≤195:=by omega
  have hbig:p.body.length≤big:=by unfold big;omega
  refine Ds (Bw (Ai (Ab (Af rfl) Ag) (Lz hok)) fun T7 e7=>?_)
  refine Ds (Bw (Ai (Ab (Af rfl) (Ab (Af rfl) Ag)) (M5 hok s1 s2 hb)) fun T8 e8=>?_)
  have htl:=text_len (p:=p) s1 hb
  refine Ij (Bw (Gy (Ef (Aj (Ai (Ab (Af rfl) (Ab Ae Ag)) Acf))) (Gy (Aj (Ao (Af rfl) (Ai (Ab (Af rfl) Ag) (Kg hok)) W6)) (Gy (Ef (Aj (Ai (Ab (Af rfl) (Ab Ae Ag)) Acf))) (Aj (Ao (Ai (Ab (Af rfl) Ag) (len_str (by unfold big;omega))) (Af rfl) Anv))))) fun T9 e9=>⟨by rw[htl];simp,?_⟩)
  refine Ij (Bw (Gy (Aj (Ao (Af rfl) (Ai (Ab (Af rfl) (Ab (Af rfl) Ag)) (Yb hok s1 s2 hb)) W6)) (Aj (Ao (Ai (Ab (Af rfl) (Ab Ae Ag)) (M5 hok (by decide) (by decide) (by omega))) (Ai (Ab (Af rfl) (Ab Ae Ag)) (Yb hok (by decide) (by decide) (by omega))) W6))) fun T10 e10=>⟨by simp,?_⟩)
  have g10:=((((e7.then0 e8).then0 e9).then0 e10)).at0 g6
  clear e7 e8 e9 g6
  have hLl:p.leads.length≤64:=Nat.le_trans (List.length_filter_le _ _) (Pg.ways_len hok)
  refine Ds (Dz (Bl (Ei rfl (Dg (Abs (Aex (P:=SP.any) hok) trivial fun F T11 e11 hF hFl=>?_)))))
  refine Ds (Dz (Bl (Ei rfl (Dg (Abs (Akp (P:=SP.any) hok) trivial fun D T12 e12 hD hDl=>?_)))))
  have hF12:=e12.at0 hF
  have hFD:F≠D:=by
   have:=Dy hF
   omega
  have hF0:F≠0:=by
   have:=Dy g10
   omega
  have g12:=e12.at0 (e11.at0 g10)
  refine Ij (Agg (Aso (Vu (p:=true) (J6 (P:=SP.any.at F (p.leads.map W.int)) (Ai (Ab (Af rfl) (Ab Ae Ag)) (Ao0 (fun _ h=>h.2))) ⟨trivial,hF12⟩ fun T13 e13=>⟨rfl,rfl,?_⟩))))
  refine Vu (p:=false) (Age (Ei rfl (Ei rfl (Agf (e13.at0 hF12) (e13.at0 hD) ⟨rfl,rfl,?_⟩))))
  have hF13:=e13.at0 hF12
  have hD13:=e13.at0 hD
  have g13:=e13.at0 g12
  let P2:=(SP.any.at F (p.leads.map W.int)).at D (p.leads.map W.int)
  have hcomp:=Fl (P:=P2) (xs:=List.range p.leads.length) (φ:=fun(k:Nat)=>W.int ((0:Int)+(k:Int))) (ψ:=fun _=>W.bl true) (t:=fun _=>pure true) (e:=Ah (Jv ns) (Aa (ixF ns (Ac 2) (Ac 0)) (Aa (ixF ns (Ac 1) (Ac 0)) nilF))) (cs:=[some (.ref D),some (.ref F)]) (cap:=[8,7]) (δ:=[some .scr,some (.ref 0),some w,some (.int size),some p.w,some (.str p.body),some (.str (p.text size)),some (.ref F),some (.ref D),x9]) (src:=Lh Hq (Aa (Ah (Cv ns) (Aa (Ac 8) nilF)) nilF))
   (Hc (k:=p.leads.length) (Ab (Pu.cast (R6 (fun _ h=>h.2) rfl) (by rw[List.length_map])) Ag) (by unfold big;omega)) rfl (by rw[List.length_range];unfold big;omega) (fun j hj=>⟨Pu.pure,Ai (Ab (Ais (fun _ h=>h.1.2) rfl (Af rfl) (Ae8 (List.mem_range.mp hj))) (Ab (Ais (fun _ h=>h.2) rfl (Af rfl) (Ae8 (List.mem_range.mp hj))) Ag)) (Ak2 _)⟩)
  refine Ij (J6 (P:=P2) (Ef (Aj (Ny (bs:=(List.range p.leads.length).map fun _=>true) (by rw[List.map_map];exact hcomp)))) ⟨⟨trivial,hF13⟩,hD13⟩ fun T14 e14=>⟨by simp,?_⟩)
  have hF14:=e14.at0 hF13
  refine Vv (Abu (P:=SP.any) (Af rfl) trivial hF14 fun T15 e15=>Bl (Ih (Dg (Zt (e15.at0 hF14) (by rw[List.length_map];unfold big;omega) ?_))))
  have hF16:(T15.set F (.lst (p.leads.map W.int ++ [.int 5])))[F]?=some (.lst ((p.leads ++ [5]).map W.int)):=by
   rw[List.map_append]
   exact Qf (Dy (e15.at0 hF14))
  have hD16:(T15.set F (.lst (p.leads.map W.int ++ [.int 5])))[D]?=some (.lst (p.leads.map W.int)):=by
   rw[List.getElem?_set_ne hFD]
   exact e15.at0 (e14.at0 hD13)
  have g16:(T15.set F (.lst (p.leads.map W.int ++ [.int 5])))[0]?=some (stD k6):=by
   rw[List.getElem?_set_ne hF0]
   exact e15.at0 (e14.at0 g13)
  generalize T15.set F (.lst (p.leads.map W.int ++ [.int 5]))=T16 at hF16 hD16 g16
  refine Ij (Agg ?_)
  refine Vu (p:=false) (Age (Dz (Bl (Ei rfl (Dg ?_)))))
  refine Abs (Aex (P:=SP.any) hok) trivial fun F2 T17 e17 hF2 _=>?_
  refine Ei rfl (Agf hF2 (e17.at0 hD16) ⟨rfl,rfl,?_⟩)
  refine Agg (Bw (Aj (Ao (Ai (Ab (Af rfl) (Ab (Af rfl) Ag)) (M5 hok s1 s2 hb)) (Af rfl) W6)) fun T18 e18=>⟨by simp,?_⟩)
  refine Vu (p:=false) (Age (Ei rfl (Ga (Ei rfl ?_))))
  refine W9 (Bl (Ih (Dg ⟨by decide,?_⟩)))
  refine Asq (us:=[.int 5]) (Fr.app.at0 (e18.at0 (e17.at0 hD16))) Ii (by rw[List.length_map];show _+1≤big;unfold big;omega) ?_
  refine Agf (is:=p.leads ++ [5]) (Fr.app.at0 (Fr.app.at0 (e18.at0 (e17.at0 hF16)))) (by rw[List.map_append];exact Ii) ⟨rfl,rfl,?_⟩
  have g19:(T18 ++ [Cell.lst [.int 5]] ++ [Cell.lst (p.leads.map W.int ++ [.int 5])])[0]?=some (stD k6):=Fr.app.at0 (Fr.app.at0 (e18.at0 (e17.at0 g16)))
  generalize T18 ++ [Cell.lst [.int 5]] ++ [Cell.lst (p.leads.map W.int ++ [.int 5])]=T19 at g19
  refine Abv (Bw (Aj (Ao (Air rfl) (Kw (Ab Ae (Ab Ae (Ab Ae Ag))) (by decide)) Ao1)) fun T20 e20=>?_)
  have g20:=e20.at0 g19
  have fin:∀{x:Option W} {T:Store} {k':Int},T[0]?=some (stD k')->k6≤k'->k'≤k6+100->Wb Am [some .scr,some (.ref 0),some w,some (.int size),some p.w,some (.str p.body),some (.str (p.text size)),some (.ref F),some (.ref D),x] T (Zw (fun δ T=>∃k x2 x3 x4 x5 x6 x7 x8 x9,δ=[some .scr,some (.ref 0),x2,x3,x4,x5,x6,x7,x8,x9]∧T[0]?=some (stD k)∧0≤k∧k≤200 * ((i+1:Nat):Int)) (G6 (Ak (retS (kF (.bl true))) Am) (Vf fun w _=>w=.bl true))):=fun {x T k'} hT' q3 q4=>
   Jc ⟨k',_,_,_,_,_,_,_,_,rfl,hT',by omega,by omega⟩
  have grown:∀(hg:Wm (Fj ns [.ref 0,p.w,.int size]) T20 (R5 0 100 k6 T20 (Atn size))),Wb (Ak (Bx 9 (Ah (Fj ns) (Aa (Ac 1) (Aa (Ac 4) (Aa (Ac 3) nilF)))))
   (Ak (ifS (orT (Az (Bc .NotEq (Ah (Jy ns) (Aa (Ac 9) nilF)) (Ah (Dw ns) (Aa (Ac 9) nilF)))) (Mh (Az (Ah (Du ns) (Aa (Ac 9) (Aa (Ac 3) nilF)))))) (Ak (retS (kF (.bl false)))
    Am) Am)
   (Ak (ifS (Az (Ah (Du ns) (Aa (Ac 9) (Aa (ixF ns (Jo (Aa (kF (.int 63)) (Aa (kF (.int 201)) (Aa (kF .non) (Aa (kF (.bl true)) nilF))))) (Ar .mod (Ac 3) (kF (.int 4)))) nilF)))) (Ak (retS (kF (.bl false)))
    Am) Am)
   Am))) [some .scr,some (.ref 0),some w,some (.int size),some p.w,some (.str p.body),some (.str (p.text size)),some (.ref F),some (.ref D),x9] T20 (G6 Am (Zw (fun δ T=>∃k x2 x3 x4 x5 x6 x7 x8 x9,δ=[some .scr,some (.ref 0),x2,x3,x4,x5,x6,x7,x8,x9]∧T[0]?=some (stD k)∧0≤k∧k≤200 * ((i+1:Nat):Int)) (G6 (Ak (retS (kF (.bl true))) Am) (Vf fun w _=>w=.bl true)))):=fun hg=>by
   refine Ds (Dz (Bl (Ei rfl (Bl (Ei rfl (Bl (Ei rfl (Dg (Dj hg fun pw T21 hq=>?_)))))))))
   obtain⟨k7,e21,g21,q3,q4,p2,hok2,rfl,hb3,hb4⟩:=hq
   refine Ij (Bw (Gy (Aj (Ao (Ai (Ab (Af rfl) Ag) (Lz hok2)) (Ai (Ab (Af rfl) Ag) (Kg hok2)) W6)) (Ef (Aj (Ai (Ab (Af rfl) (Ab (Af rfl) Ag)) (Ye (Aoi hok2 s1 s2 hb3 (Nat.le_trans hb4 (by decide))) (.inl ⟨rfl,rfl⟩)))))) fun T22 e22=>⟨by simp,?_⟩)
   obtain⟨bw,ebw,hbw⟩:=Ao2 size
   refine Ij (Bw (Aj (Ai (Ab (Af rfl) (Ab (Uh (Ab Ae (Ab Ae (Ab Ae (Ab Ae Ag)))) (by show 4≤big;decide) (Al (Af rfl) Ae (Cp (j:=4) (by decide))) ebw) Ag)) (Ye (Aom hok2 (Ata hbw)) (.inr ⟨rfl,rfl⟩)))) fun T23 e23=>⟨rfl,?_⟩)
   exact Jc (fin (e23.at0 (e22.at0 g21)) q3 q4)
  cases p with
  |head _ _ _ _=>exact Jc (fin g20 (by omega) (by omega))
  |free _=>exact Jc (fin g20 (by omega) (by omega))
  |rest t v=>exact grown (Ag4 s1 s2 hok hb g20 (by omega) (by omega))
  |leaf rs=>exact grown (Ag5 s1 s2 g20 (by omega) (by omega))
  |fork ks ps=>exact grown (Ag6 s1 s2 g20 (by omega) (by omega))
 .rintro δ T ⟨k,x2,x3,x4,x5,x6,x7,x8,x9,rfl,hT,k0,k1⟩
  exact Kz (Ih rfl)
end
end K4
open PySem PySem.W PyProof.Rows
set_option maxRecDepth 100000 in
set_option maxHeartbeats 0 in
theorem PySem.Challenge.cw_leafhouse_k04_bodies_and_texts_holds : PySem.Challenge.rw_leafhouse_k04_bodies_and_texts.Holds := by
 w_on;o_law;k_head;(case hw=>w_witness2)
 k_fill
 refine D.Ann (l:=PySem.Challenge.rw_leafhouse_k04_bodies_and_texts) (k:=44) (x:="_law_script") rfl rfl ⟨fun _=>rfl,by decide,by decide⟩ (fun w h Y=>PySem.W.kIn_of Y) ?F
 case F=>
  intro w mg fa h KX G hmg
  refine' K4.Axx KX G hmg K4.Ak3 ?u_C0 ?u_C1 ?u_C2 ?u_C3 ?u_C4 ?u_ca0 ?u_cl0 ?u_cc0 ?u_ck0 ?u_ca1 ?u_cl1 ?u_cc1 ?u_ck1 ?u_ca2 ?u_cl2 ?u_cc2 ?u_ck2 ?u_ca3 ?u_cl3 ?u_cc3 ?u_ck3 ?u_ca4 ?u_cl4 ?u_cc4 ?u_ck4 ?u_ca5 ?u_cl5 ?u_cc5 ?u_ck5 ?u_ca6 ?u_cl6 ?u_cc6 ?u_ck6 ?u_ca7 ?u_cl7 ?u_cc7 ?u_ck7 ?u_dl7 ?u_ca8 ?u_cl8 ?u_cc8 ?u_ck8 ?u_ca9 ?u_cl9 ?u_cc9 ?u_ck9 ?u_ca10 ?u_cl10 ?u_cc10 ?u_ck10 ?u_ca11 ?u_cl11 ?u_cc11 ?u_ck11 ?u_ca12 ?u_cl12 ?u_cc12 ?u_ck12 ?u_ca13 ?u_cl13 ?u_cc13 ?u_ck13 ?u_ca14 ?u_cl14 ?u_cc14 ?u_ck14 ?u_ca15 ?u_cl15 ?u_cc15 ?u_ck15 ?u_ca16 ?u_cl16 ?u_cc16 ?u_ck16 ?u_ca17 ?u_cl17 ?u_cc17 ?u_ck17 ?u_ca18 ?u_cl18 ?u_cc18 ?u_ck18 ?u_ca19 ?u_cl19 ?u_cc19 ?u_ck19 ?u_ca20 ?u_cl20 ?u_cc20 ?u_ck20 ?u_ca21 ?u_cl21 ?u_cc21 ?u_ck21 ?u_ca22 ?u_cl22 ?u_cc22 ?u_ck22 ?u_ca23 ?u_cl23 ?u_cc23 ?u_ck23 ?u_ca24 ?u_cl24 ?u_cc24 ?u_ck24 ?u_ca25 ?u_cl25 ?u_cc25 ?u_ck25 ?u_ca26 ?u_cl26 ?u_cc26 ?u_ck26 ?u_ca27 ?u_cl27 ?u_cc27 ?u_ck27 ?u_ca28 ?u_cl28 ?u_cc28 ?u_ck28 ?u_ca29 ?u_cl29 ?u_cc29 ?u_ck29 ?u_ca30 ?u_cl30 ?u_cc30 ?u_ck30 ?u_ca31 ?u_cl31 ?u_cc31 ?u_ck31 ?u_ca32 ?u_cl32 ?u_cc32 ?u_ck32 ?u_ca33 ?u_cl33 ?u_cc33 ?u_ck33 ?u_ca34 ?u_cl34 ?u_cc34 ?u_ck34 ?u_ca35 ?u_cl35 ?u_cc35 ?u_ck35 ?u_ca36 ?u_cl36 ?u_cc36 ?u_ck36 ?u_ca37 ?u_cl37 ?u_cc37 ?u_ck37 ?u_ca38 ?u_cl38 ?u_cc38 ?u_ck38 ?u_ca39 ?u_cl39 ?u_cc39 ?u_ck39 ?u_ca40 ?u_cl40 ?u_cc40 ?u_ck40 ?u_ca41 ?u_cl41 ?u_cc41 ?u_ck41 ?u_ca42 ?u_cl42 ?u_cc42 ?u_ck42 ?u_dl42 ?u_g0 ?u_g1 ?u_g2 ?u_g3 ?u_g4 ?u_g5 ?u_g6 ?u_g7 ?u_g8 ?u_g9 ?u_g10 ?u_g11 ?u_g12 ?u_g13 ?u_g14 ?u_g15 ?u_g16 ?u_z0 ?u_z1 ?u_z2 ?u_z3 ?u_z4 ?u_z5 ?u_z6 ?u_z7 ?u_z8 ?u_z9 ?u_z10 ?u_z11 ?u_z12 ?u_z13 ?u_z14 ?u_z15 ?u_x0 ?u_x1 ?u_x2 ?u_x3 ?u_isL ?u_veL ?u_exL ?u_mg0 ?u_mt0 ?u_xa42 ?u_xk42 ?u_xf42 ?u_xs42 ?u_xb42
  (case u_C0=>k_is)
  (case u_C1=>k_is)
  (case u_C2=>k_is)
  (case u_C3=>k_is)
  (case u_C4=>k_is)
  (case u_ca0=>k_is)
  (case u_cl0=>k_is)
  (case u_cc0=>k_is)
  (case u_ck0=>k_is)
  (case u_ca1=>k_is)
  (case u_cl1=>k_is)
  (case u_cc1=>k_is)
  (case u_ck1=>k_is)
  (case u_ca2=>k_is)
  (case u_cl2=>k_is)
  (case u_cc2=>k_is)
  (case u_ck2=>k_is)
  (case u_ca3=>k_is)
  (case u_cl3=>k_is)
  (case u_cc3=>k_is)
  (case u_ck3=>k_is)
  (case u_ca4=>k_is)
  (case u_cl4=>k_is)
  (case u_cc4=>k_is)
  (case u_ck4=>k_is)
  (case u_ca5=>k_is)
  (case u_cl5=>k_is)
  (case u_cc5=>k_is)
  (case u_ck5=>k_is)
  (case u_ca6=>k_is)
  (case u_cl6=>k_is)
  (case u_cc6=>k_is)
  (case u_ck6=>k_is)
  (case u_ca7=>k_is)
  (case u_cl7=>k_is)
  (case u_cc7=>k_is)
  (case u_ck7=>k_is)
  (case u_dl7=>k_is)
  (case u_ca8=>k_is)
  (case u_cl8=>k_is)
  (case u_cc8=>k_is)
  (case u_ck8=>k_is)
  (case u_ca9=>k_is)
  (case u_cl9=>k_is)
  (case u_cc9=>k_is)
  (case u_ck9=>k_is)
  (case u_ca10=>k_is)
  (case u_cl10=>k_is)
  (case u_cc10=>k_is)
  (case u_ck10=>k_is)
  (case u_ca11=>k_is)
  (case u_cl11=>k_is)
  (case u_cc11=>k_is)
  (case u_ck11=>k_is)
  (case u_ca12=>k_is)
  (case u_cl12=>k_is)
  (case u_cc12=>k_is)
  (case u_ck12=>k_is)
  (case u_ca13=>k_is)
  (case u_cl13=>k_is)
  (case u_cc13=>k_is)
  (case u_ck13=>k_is)
  (case u_ca14=>k_is)
  (case u_cl14=>k_is)
  (case u_cc14=>k_is)
  (case u_ck14=>k_is)
  (case u_ca15=>k_is)
  (case u_cl15=>k_is)
  (case u_cc15=>k_is)
  (case u_ck15=>k_is)
  (case u_ca16=>k_is)
  (case u_cl16=>k_is)
  (case u_cc16=>k_is)
  (case u_ck16=>k_is)
  (case u_ca17=>k_is)
  (case u_cl17=>k_is)
  (case u_cc17=>k_is)
  (case u_ck17=>k_is)
  (case u_ca18=>k_is)
  (case u_cl18=>k_is)
  (case u_cc18=>k_is)
  (case u_ck18=>k_is)
  (case u_ca19=>k_is)
  (case u_cl19=>k_is)
  (case u_cc19=>k_is)
  (case u_ck19=>k_is)
  (case u_ca20=>k_is)
  (case u_cl20=>k_is)
  (case u_cc20=>k_is)
  (case u_ck20=>k_is)
  (case u_ca21=>k_is)
  (case u_cl21=>k_is)
  (case u_cc21=>k_is)
  (case u_ck21=>k_is)
  (case u_ca22=>k_is)
  (case u_cl22=>k_is)
  (case u_cc22=>k_is)
  (case u_ck22=>k_is)
  (case u_ca23=>k_is)
  (case u_cl23=>k_is)
  (case u_cc23=>k_is)
  (case u_ck23=>k_is)
  (case u_ca24=>k_is)
  (case u_cl24=>k_is)
  (case u_cc24=>k_is)
  (case u_ck24=>k_is)
  (case u_ca25=>k_is)
  (case u_cl25=>k_is)
  (case u_cc25=>k_is)
  (case u_ck25=>k_is)
  (case u_ca26=>k_is)
  (case u_cl26=>k_is)
  (case u_cc26=>k_is)
  (case u_ck26=>k_is)
  (case u_ca27=>k_is)
  (case u_cl27=>k_is)
  (case u_cc27=>k_is)
  (case u_ck27=>k_is)
  (case u_ca28=>k_is)
  (case u_cl28=>k_is)
  (case u_cc28=>k_is)
  (case u_ck28=>k_is)
  (case u_ca29=>k_is)
  (case u_cl29=>k_is)
  (case u_cc29=>k_is)
  (case u_ck29=>k_is)
  (case u_ca30=>k_is)
  (case u_cl30=>k_is)
  (case u_cc30=>k_is)
  (case u_ck30=>k_is)
  (case u_ca31=>k_is)
  (case u_cl31=>k_is)
  (case u_cc31=>k_is)
  (case u_ck31=>k_is)
  (case u_ca32=>k_is)
  (case u_cl32=>k_is)
  (case u_cc32=>k_is)
  (case u_ck32=>k_is)
  (case u_ca33=>k_is)
  (case u_cl33=>k_is)
  (case u_cc33=>k_is)
  (case u_ck33=>k_is)
  (case u_ca34=>k_is)
  (case u_cl34=>k_is)
  (case u_cc34=>k_is)
  (case u_ck34=>k_is)
  (case u_ca35=>k_is)
  (case u_cl35=>k_is)
  (case u_cc35=>k_is)
  (case u_ck35=>k_is)
  (case u_ca36=>k_is)
  (case u_cl36=>k_is)
  (case u_cc36=>k_is)
  (case u_ck36=>k_is)
  (case u_ca37=>k_is)
  (case u_cl37=>k_is)
  (case u_cc37=>k_is)
  (case u_ck37=>k_is)
  (case u_ca38=>k_is)
  (case u_cl38=>k_is)
  (case u_cc38=>k_is)
  (case u_ck38=>k_is)
  (case u_ca39=>k_is)
  (case u_cl39=>k_is)
  (case u_cc39=>k_is)
  (case u_ck39=>k_is)
  (case u_ca40=>k_is)
  (case u_cl40=>k_is)
  (case u_cc40=>k_is)
  (case u_ck40=>k_is)
  (case u_ca41=>k_is)
  (case u_cl41=>k_is)
  (case u_cc41=>k_is)
  (case u_ck41=>k_is)
  (case u_ca42=>k_is)
  (case u_cl42=>k_is)
  (case u_cc42=>k_is)
  (case u_ck42=>k_is)
  (case u_dl42=>k_is)
  (case u_g0=>k_is)
  (case u_g1=>k_is)
  (case u_g2=>k_is)
  (case u_g3=>k_is)
  (case u_g4=>k_is)
  (case u_g5=>k_is)
  (case u_g6=>k_is)
  (case u_g7=>k_is)
  (case u_g8=>k_is)
  (case u_g9=>k_is)
  (case u_g10=>k_is)
  (case u_g11=>k_is)
  (case u_g12=>k_is)
  (case u_g13=>k_is)
  (case u_g14=>k_is)
  (case u_g15=>k_is)
  (case u_g16=>k_is)
  (case u_z0=>k_is)
  (case u_z1=>k_is)
  (case u_z2=>k_is)
  (case u_z3=>k_is)
  (case u_z4=>k_is)
  (case u_z5=>k_is)
  (case u_z6=>k_is)
  (case u_z7=>k_is)
  (case u_z8=>k_is)
  (case u_z9=>k_is)
  (case u_z10=>k_is)
  (case u_z11=>k_is)
  (case u_z12=>k_is)
  (case u_z13=>k_is)
  (case u_z14=>k_is)
  (case u_z15=>k_is)
  (case u_x0=>kernel_rfl)
  (case u_x1=>kernel_rfl)
  (case u_x2=>kernel_rfl)
  (case u_x3=>kernel_rfl)
  (case u_isL=>kernel_rfl)
  (case u_veL=>kernel_rfl)
  (case u_exL=>kernel_rfl)
  (case u_mg0=>k_is)
  (case u_mt0=>kernel_rfl)
  (case u_xa42=>kernel_rfl)
  (case u_xk42=>k_is)
  (case u_xf42=>kernel_rfl)
  (case u_xs42=>kernel_rfl)
  (case u_xb42=>kernel_rfl)
