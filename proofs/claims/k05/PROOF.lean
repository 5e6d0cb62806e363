import PyProof.Rows.All
import Wide.All
import OpenK.AllK
import Wide.FinOn
import Lean
import PyProof.EqAt
import PyProof.EqKinds
import PyProof.TupleCall
import PySem.Challenge.RW_leafhouse_k05_whole_page_to_text_to_page
set_option Elab.async false
set_option linter.all false
set_option maxRecDepth 100000
set_option maxHeartbeats 8000000
set_option autoImplicit true
set_option relaxedAutoImplicit true
noncomputable section
open List (mem_range mem_cons_self mem_cons_of_mem mem_cons mem_append getElem_inj getElem?_set_self getElem?_set_ne mem_filterMap mem_append_right size_toArray length_cons map_cons length_map append_nil nodup_cons of_mem_zip length_take getElem?_append_right getElem?_append_left getElem?_map mem_of_getElem? length_append length_replicate length_drop map_nil length_singleton find?_cons any_cons length_nil forIn_cons lookup_cons getD_eq_getElem?_getD mem_singleton all_eq_true getElem?_eq_getElem getElem_mem not_mem_nil pairwise_cons not_lt cons_append all_cons nil_append prefix_refl nodup_append prefix_append length_set drop_zero take_length map_map drop_eq_getElem_cons drop_eq_nil_of_le length_range append_assoc filter_cons length_eraseIdx map_append sum_cons drop_set_of_lt zip filter_eq_self length_zip all_map mem_map take_set)
open PySem.W (instObj methodObj hideAll hideAll_get of_hideAll hideAll_none lookIn plainGet hasDictIn plainGet_of findObj_own isFn plainOver takerIn makesIn typeIn emptyDict keepIn specialIn kitOne kia_one kitx_list kitx_dict fnOf codeIn excIn isNs_of_in tail_of_in callWith_K exmOne nsIn readsIn findCls callWith_K0 mg_of mg_none_of)
open Nat (lt_of_lt_of_le lt_irrefl ne_of_lt le_trans le_of_lt ne_of_gt le_refl le_of_eq lt_succ_self zero_le le_succ succ_le_succ le_add_right sub_self mul_le_mul_right add_le_add_left add_le_add_right)
open Bool (and_eq_true not_eq_true' eq_false_iff or_eq_true_iff or_eq_true and_eq_true_iff not_eq_true)
open PySem.Heap (lt_size get?_none_of_le SameBut get?_push_of_some get?_push_size size_push Ns1 get?_update_other NotedW get?_update_self FlyingW MadeExcOf ExtBut IsTuple)
open Int (toNat_natCast ediv_one emod_nonneg emod_lt_of_pos mul_comm add_mul toNat_of_nonneg pow_succ zero_add pow_zero lt_trans)
open Array (length_toList toList getElem?_toList append_empty toList_append empty_append)
open Option (isSome_iff_exists getD_none map_eq_some_iff getD_some)
namespace PySem.W.Fast
def tw2551315861196247381:=0
def tw2846486114723469775:=0
def tw2660368799626365856:=0
def tw7529717348189409760:=0
def tw15784926287005524776:=0
def tw7601954438414316087:=0
def tw3194830215422483654:=0
def tw501244481772137661:=0
def tw7544493164495833023:=0
def tw901401264252231326:=0
def tw18444592456512249748:=0
def tw3141050965965751226:=0
def tw17049027993602124950:=0
def tw5703844622215470890:=0
def tw15820312598116265914:=0
def tw73747951558136720:=0
def tw6957374845710877203:=0
def tw94237242703111977:=0
def tw7558286604844728860:=0
def tw10492755154629247752:=0
def tw9110601603488274229:=0
def tw425025382141588786:=0
def tw11705284598467950152:=0
def tw14168604021870043789:=0
def tw14626542476501757470:=0
def tw284484735784018756:=0
def tw17627348627311672400:=0
def tw2962160337559961318:=0
def tw13473028934610940933:=0
def tw8286106747751716478:=0
def tw10717861383544327569:=0
def tw6789858983232586805:=0
def tw708529018088104415:=0
def tw5481210787717381409:=0
def tw4374543618083682527:=0
def tw803652688377509576:=0
def tw13195874102762255285:=0
def tw17250440891064673776:=0
def tw5753432946016062766:=0
def tw9474579800538538680:=0
def tw4136188876124642149:=0
def tw16753290477549486784:=0
def tw3673553437436488112:=0
def tw18376840331389501075:=0
def tw600459656744942322:=0
def tw9356468421852308207:=0
def tw3681220769108433249:=0
def tw18341789866421209432:=0
def tw13728711456782783453:=0
def tw10900015399468825016:=0
def tw942940335136306044:=0
def tw16031969291052569407:=0
def tw14796204459268247097:=0
def tw1919438525350653085:=0
def tw14165652105044524903:=0
def tw13573365931398081850:=0
def tw7987811521198041232:=0
def tw587974924984328224:=0
def tw16192555312468172032:=0
def tw5084204056714571488:=0
def tw11741332395797278511:=0
def tw9727912414588509314:=0
def tw13342518443395407554:=0
def tw3602043472744764137:=0
def tw5402954157122353510:=0
def tw17279493258691616526:=0
def tw16342473429551598163:=0
def tw16243912152743069845:=0
def tw10030511927796553185:=0
def tw1523846811038134313:=0
def tw14822593117274779292:=0
def tw18425366413040599703:=0
def tw1292913381010427859:=0
def tw8730925088263304715:=0
def tw9809494580575381747:=0
def tw10690920677512803057:=0
def tw3943597606200190993:=0
def tw5065432796296466392:=0
def tw5710768758228200571:=0
def tw13842989582769996119:=0
def tw11099155929306080797:=0
def tw8066836711839822308:=0
def tw16654313835036924392:=0
def tw3567553255314474769:=0
def tw5072055549605233322:=0
def tw6438988404696805717:=0
def tw7865477390224191095:=0
def tw11127534700452924061:=0
def tw16434172310022940344:=0
def tw8890223645612495915:=0
def tw5145563817320669120:=0
def tw7150293452873547810:=0
def tw6591544381255762449:=0
def tw5785041905539116726:=0
def tw10643837543636449620:=0
def tw4641098633691070845:=0
def tw61653724907513022:=0
def tw8734405145033577861:=0
def tw7980686741922470439:=0
def tw13682920541143865222:=0
def tw12316239114093836555:=0
def tw13633349749555409017:=0
def tw4295711267825360900:=0
def tw9158657767606521948:=0
def tw8982764970407073542:=0
def tw6103936889638986897:=0
def tw8127919610385504742:=0
def tw12280918322780146024:=0
def tw4899220317174771533:=0
def tw1241138523334290243:=0
def tw2560269658129635784:=0
def tw16023565753726719829:=0
def tw212152148003104814:=0
def tw7505481639118124298:=0
def tw17258271196543137753:=0
def tw4485397152774958014:=0
def tw17001015036894864603:=0
def tw5768053024119627888:=0
def tw2077340955909476104:=0
def tw13858288375309553297:=0
def tw9670411345848120269:=0
def tw8537133288887219760:=0
def tw4941048815838617562:=0
def tw5981298666990927469:=0
def tw11830741937791436361:=0
def tw3570975080460509518:=0
def tw17126211915052423903:=0
def tw15898615746315470916:=0
def tw8212161305044748041:=0
def tw17797173484549957253:=0
def tw5913238454854136517:=0
def tw16600453820494900667:=0
def tw1194887365447937359:=0
def tw6407826860671859718:=0
def tw8334109285175994053:=0
def tw14217734694419791962:=0
def tw872254440430106408:=0
def tw9857637663287931528:=0
def tw14254384304157889034:=0
def tw3070704333993055640:=0
def tw14854646533363165166:=0
def tw11629137962487216249:=0
def tw9335557349879157275:=0
def tw5659312006449970751:=0
def tw5950587767105651382:=0
def tw7636769420467182953:=0
def tw609112315427429204:=0
def tw17786188270380543633:=0
def tw9135864998815759237:=0
def tw16751838768125451897:=0
def tw8399095480916402623:=0
def tw3101475056366419024:=0
def tw8027470885133067776:=0
def tw12227798566522189376:=0
def tw3000137269185028411:=0
def tw17602472517112255280:=0
def tw9208743224374933428:=0
def tw11202097446208756395:=0
def tw5836303205423030264:=0
def tw3336629374177022026:=0
def tw14027424744787658524:=0
def tw15378178951502914177:=0
def tw5868643860702994605:=0
def tw7817663964294573300:=0
def tw17251981912499820014:=0
def tw7323947982603314280:=0
def tw13933502098443054779:=0
def tw6355189797036072343:=0
def tw4419177659646653084:=0
def tw6692436174072556516:=0
def tw1745848552073392684:=0
def tw17803530939311911670:=0
def tw11077267885635001337:=0
def tw5800471086033111776:=0
def tw1542078583146419588:=0
def tw17444111209008475739:=0
def tw7405279476789182086:=0
def tw11372971026005319304:=0
def tw11896441056441689712:=0
def tw11972596163385916566:=0
def tw2307666541531392247:=0
def tw2352255511515473539:=0
def tw1331204280412615708:=0
def tw1550991153225625960:=0
def tw16344591034671569180:=0
def tw7219335493084326691:=0
def tw4209007202457370740:=0
def tw15366704428555452694:=0
def tw2858561652899057063:=0
def tw7176848968831093398:=0
def tw9995743511756768868:=0
def tw1193010094470838831:=0
def tw1921096389532527309:=0
def tw3372345719617632449:=0
def tw3913191731925404817:=0
def tw16237237546930910596:=0
def tw16426486835835826950:=0
def tw14311859870600871351:=0
def tw5479426361062871560:=0
def tw8325291747692717852:=0
def tw4549095602078684336:=0
def tw18214404775627922235:=0
def tw6250132738335788046:=0
def tw8283754702232800920:=0
def tw8636861169419209480:=0
def tw14614311288279842851:=0
def tw15183024982852412194:=0
def tw9101919468258276119:=0
def tw1112104031005090006:=0
def tw7329893977228337231:=0
def tw4530852064921070138:=0
def tw1624724221090456327:=0
def tw17451038835775129728:=0
def tw16966462986124979166:=0
def tw5053803997803195015:=0
def tw5136778902077839544:=0
def tw4776885277273151626:=0
def tw10051119928461061458:=0
def tw11621555962534146989:=0
def tw2181923543059308140:=0
def tw17250178056224458618:=0
def tw18349689284861187463:=0
def tw10828129040502013312:=0
def tw7469879366956244670:=0
def tw460222908418153512:=0
def tw8603693162559404976:=0
def tw12795748664601082588:=0
def tw3348713129528881071:=0
def tw12113008199376488586:=0
def tw12993237978079048976:=0
def tw3814047823958567329:=0
def tw11902924767684032001:=0
def tw6063959516999369842:=0
def tw16768278237348770462:=0
def tw17659750420158121404:=0
def tw18057495931672035793:=0
def tw9878015492734606240:=0
def tw9959792831894924657:=0
def tw18031167404041919285:=0
def tw10164416298195802381:=0
def tw11584439566202651779:=0
def tw8898824630414656063:=0
def tw13269445700058826646:=0
def tw4059160760189079638:=0
def tw12833753676180972489:=0
def tw6669721281622216084:=0
def tw3309978497385467867:=0
def tw7261257301101683963:=0
def tw15189150392513182772:=0
def tw1595824000270459690:=0
def tw4158167053639391684:=0
def tw11526305027427154731:=0
def tw11390964952380575660:=0
def tw13969833542526233201:=0
def tw5036917448344268952:=0
def tw5128964255469740384:=0
def tw2932057154423867992:=0
def tw11322160081182812570:=0
def tw17714110166634304323:=0
def tw11620850787884917357:=0
def tw2452445142204490377:=0
def tw2920712565243770871:=0
def tw4318891969439553857:=0
def tw3944060932595014937:=0
def tw4176281463707513926:=0
def tw10107434005427772605:=0
def tw6662024829870537819:=0
def tw9106599702098652965:=0
def tw6241380700368275548:=0
def tw14429016952887029247:=0
def tw11890868230745356897:=0
def tw986057895575456328:=0
def tw4555931769521271843:=0
def tw11599949569587985605:=0
def tw9269361245548234221:=0
def tw14061921846754721259:=0
def tw7146845267624832717:=0
def tw4791865046607703946:=0
def tw12939389862952470776:=0
def tw8569135575100401149:=0
def tw8999136429496669815:=0
def tw5855464932961345176:=0
def tw14483582108307091628:=0
def tw5432258315846941403:=0
def tw8294769124824613366:=0
def tw7126626149243755293:=0
def tw5088472404584432284:=0
def tw14513491055034616999:=0
def tw3078843666193867959:=0
def tw4885261039959465408:=0
def tw4781012258730499031:=0
def tw16467249067924290557:=0
def tw17333028466655794760:=0
def tw13773309160295432993:=0
def tw9231628685339798190:=0
def tw6158364769641629053:=0
def tw10258249812846374051:=0
def tw6255555203648379129:=0
def tw1607232320316062027:=0
def tw10544583027839701330:=0
def tw1922394493117245019:=0
def tw6078481987867928314:=0
def tw10160022682774998190:=0
def tw12446168224712594637:=0
def tw190798270379784876:=0
def tw18254604328261350682:=0
end PySem.W.Fast
namespace L2
open PySem PySem.Spec PyProof.Rows
abbrev Key:=Sum Int Str
def Wd:Key->Value->Bool
 |.inl k,v=>Value.isInt k v
 |.inr x,v=>Value.isStrOf x v
def Bfr (w:World):Key->Int
 |.inl k=>hashInt k
 |.inr x=>hashStr w x
theorem Ef:∀{k:Key} {v:Value},Wd k v=true->(∃i t,k=Sum.inl i/\v=Value.int i t)\/(∃x t,k=Sum.inr x/\v=Value.str x t)
 |.inl i,v,h=>by
  obtain⟨t,e⟩:=Value.isInt_shape (k:=i) (v:=v) h;exact .inl ⟨i,t,rfl,e⟩
 |.inr x,v,h=>by
  obtain⟨t,e⟩:=Value.isStrOf_shape (x:=x) (v:=v) h;exact .inr ⟨x,t,rfl,e⟩
theorem Akr (i:Int) (t:Tok):Wd (.inl i) (.int i t)=true:=by simp[Wd,Value.isInt]
theorem Aks (x:Str) (t:Tok):Wd (.inr x) (.str x t)=true:=by simp[Wd,Value.isStrOf]
theorem Ax8 (a b:Int):decide ((Sum.inl a:Key)=Sum.inl b)=(a==b):=by
 by_cases e:a=b
 .subst e;simp
 .have h:¬ (Sum.inl a:Key)=Sum.inl b:=fun q=>e (Sum.inl.inj q);rw[decide_eq_false h];exact(beq_eq_false_iff_ne.mpr e).symm
theorem Ax9 (a b:Str):decide ((Sum.inr a:Key)=Sum.inr b)=decide (a=b):=by
 by_cases e:a=b
 .subst e;simp
 .have h:¬ (Sum.inr a:Key)=Sum.inr b:=fun q=>e (Sum.inr.inj q);rw[decide_eq_false h,decide_eq_false e]
theorem Aya (a:Int) (b:Str):decide ((Sum.inl a:Key)=Sum.inr b)=false:=decide_eq_false (fun q=>nomatch q)
theorem Ayb (a:Str) (b:Int):decide ((Sum.inr a:Key)=Sum.inl b)=false:=decide_eq_false (fun q=>nomatch q)
def Er (prog:Program) (w:World):PySem.KeyKind prog w Key where
 is:=Wd
 hash:=Bfr w
 inj:=fun v a b ha hb=>by
  rcases Ef ha with ⟨i,t,rfl,rfl⟩|⟨x,t,rfl,rfl⟩
  .rcases Ef hb with ⟨j,u,rfl,e⟩|⟨y,u,rfl,e⟩
   .injection e with e1 _;rw[e1]
   .exact nomatch e
  .rcases Ef hb with ⟨j,u,rfl,e⟩|⟨y,u,rfl,e⟩
   .exact nomatch e
   .injection e with e1 _;rw[e1]
 byValue:=fun k v h=>by
  rcases Ef h with ⟨i,t,rfl,rfl⟩|⟨x,t,rfl,rfl⟩ <;> rfl
 pyHash:=fun hv h=>by
  rcases Ef hv with ⟨i,t,rfl,rfl⟩|⟨x,t,rfl,rfl⟩
  .exact wpAny_pyHash_int h
  .exact wpAny_pyHash_str h
 eqBool:=fun hu hv h=>by
  rcases Ef hu with ⟨i,t,rfl,rfl⟩|⟨x,t,rfl,rfl⟩
  .rcases Ef hv with ⟨j,u,rfl,rfl⟩|⟨y,u,rfl,rfl⟩
   .rw[Ax8] at h;exact wpAny_eqBool_int h
   .rw[Aya] at h;exact SeqAt.EqAt.int_str i t y u _ _ _ _ h
  .rcases Ef hv with ⟨j,u,rfl,rfl⟩|⟨y,u,rfl,rfl⟩
   .rw[Ayb] at h;exact SeqAt.EqAt.str_int x t j u _ _ _ _ h
   .rw[Ax9] at h;exact wpAny_eqBool_str h
 «strs»:=fun k x t v h=>by
  rcases Ef h with ⟨i,u,rfl,e⟩|⟨y,u,rfl,e⟩
  .exact nomatch e
  .injection e with e1 _
   subst e1;cases v <;> rfl
theorem Ad7 (prog:Program) (w:World) (i:Int) (t:Tok):(Er prog w).is (.inl i) (.int i t)=true:=Akr i t
theorem Ad8 (prog:Program) (w:World) (x:Str) (t:Tok):(Er prog w).is (.inr x) (.str x t)=true:=Aks x t
inductive V where
 |non|bl (b:Bool)|int (i:Int)|str (x:Str)|byt (b:Array UInt8)|flt (b:UInt64)|ref (a:Addr)|ty (n:String)
 deriving DecidableEq
def RelV:V->Value->Prop
 |.non,u=>u=Value.none
 |.bl b,u=>u=Value.bool b
 |.int i,u=>∃t,u=Value.int i t
 |.str x,u=>∃t,u=Value.str x t
 |.byt b,u=>∃t,u=Value.bytes b t
 |.flt b,u=>∃t,u=Value.float b t
 |.ref a,u=>u=Value.ref a
 |.ty n,u=>u=Value.type n
abbrev Vals:List V->List Value->Prop:=Paired RelV
theorem Vals.length {xs:List V} {us:List Value} (r:Vals xs us):xs.length=us.length:=Paired.length r
theorem Vals.get:∀{xs:List V} {us:List Value} {i:Nat} {x:V},Vals xs us->xs[i]?=some x->∃u,us[i]?=some u/\RelV x u
 |_,_,_,_,.nil,e=>by simp at e
 |_,_,0,_,.cons r _,e=>by simp at e;subst e;exact⟨_,rfl,r⟩
 |_,_,i+1,x,.cons _ t,e=>by
  obtain⟨u,h1,h2⟩:=Vals.get (i:=i) (x:=x) t (by simpa using e)
  exact⟨u,by simpa using h1,h2⟩
theorem Vals.set {x:V} {u:Value} (r:RelV x u):∀{xs:List V} {us:List Value} (i:Nat),Vals xs us->Vals (xs.set i x) (us.set i u)
 |_,_,_,.nil=>.nil
 |_,_,0,.cons _ t=>.cons r t
 |_,_,i+1,.cons q t=>.cons q (Vals.set r i t)
theorem Vals.append:∀{xs ys:List V} {us ws:List Value},Vals xs us->Vals ys ws->Vals (xs ++ ys) (us ++ ws)
 |_,_,_,_,.nil,s=>s
 |_,_,_,_,.cons r t,s=>.cons r (Vals.append t s)
theorem Vals.take:∀{xs:List V} {us:List Value} (n:Nat),Vals xs us->Vals (xs.take n) (us.take n)
 |_,_,0,_=>.nil
 |_,_,_+1,.nil=>.nil
 |_,_,n+1,.cons r t=>.cons r (Vals.take n t)
theorem Vals.drop:∀{xs:List V} {us:List Value} (n:Nat),Vals xs us->Vals (xs.drop n) (us.drop n)
 |_,_,0,r=>r
 |_,_,_+1,.nil=>.nil
 |_,_,n+1,.cons _ t=>Vals.drop n t
def Oz:Option V->Option Value->Prop
 |some v,some u=>RelV v u
 |none,none=>True
 |_,_=>False
def KV {κ:Type}:List (κ×V)->List (κ×Value)->Prop:=Paired fun(p:κ×V) (q:κ×Value)=>p.1=q.1/\RelV p.2 q.2
def kV:Key->V
 |.inl i=>.int i
 |.inr x=>.str x
inductive HO where
 |lst (xs:List V)
 |tup (xs:List V)
 |dK (kvs:List (Key×V))|dT (kvs:List (List Key×V))
 |set (S:Int->Bool) (n:Nat)
 |ins (C dx:Addr) (fs:List (Str×V))
 |own (x:Addr)
 |xd (fs:List (Str×V))
 |met (f x:Addr)
 |rng (lo hi:Int)
 |frz (o:Obj) (u:HO)
 |tbl (ps:Array Value)
 |ext (φ:Heap->Prop)
abbrev Hp:=Addr->Option HO
def upd (H:Hp) (a:Addr) (o:HO):Hp:=fun b=>if b=a then some o else H b
theorem Bm {H:Hp} {a:Addr} {o:HO}:upd H a o a=some o:=by unfold upd;rw[if_pos rfl]
theorem Ax {H:Hp} {a b:Addr} {o:HO} (h:b≠a):upd H a o b=H b:=by unfold upd;rw[if_neg h]
theorem Bcn {H:Hp} {a b:Addr} {o u:HO} (h:H a=some o) (h':H b=some u) (d:o≠u):a≠b:=by
 intro e;subst e;rw[h] at h';exact d (Option.some.inj h')
theorem Bv {H:Hp} {a b:Addr} {o:HO} (h:H a=some o) (h':H b=none):a≠b:=by
 intro e;subst e;rw[h] at h';cases h'
section
variable (P:Program) (w:World)
def Dn (H:Hp) (h:Heap) (a:Addr):HO->Prop
 |.lst xs=>xs.length<=sizeLine/\∃(its:List Value) (n:Nat),Vals xs its/\h.get? a=some { cls:=.type "list",data:=.seq its.toArray n }
 |.tup xs=>xs.length<=sizeLine/\∃its:List Value,Vals xs its/\IsTup h a its.toArray
 |.dK kvs=>kvs.length<=sizeLine/\(a==sysModules)=false/\∃vs,KV kvs vs/\h.DictOf (Er P w) a vs
 |.dT kvs=>kvs.length<=sizeLine/\(a==sysModules)=false/\∃xs:List (List Key×Addr×Value),
   Paired (fun(p:List Key×V) (q:List Key×Addr×Value)=>p.1=q.1/\H q.2.1=some (.tup (p.1.map kV))/\RelV p.2 q.2.2) kvs xs/\
   ∃o es ep,h.get? a=some o/\o.ExactDict/\o.data=.dict es ep/\es.toList=xs.map (entryOfKey (tupleKind (Er P w)))/\(xs.map (·.1)).Nodup
 |.set S n=>h.SetOf (intKind P w) a S n
 |.ins C dx fs=>H dx=some (.own a)/\fs.length<=1000/\dx≠a/\h.get? a=some (instObj C dx)/\
   ∃mA,h.Ns1 dx mA/\(∀f,Oz (fs.lookup f) (mA f))/\PySem.Within mA (fs.map (·.1))
 |.own _=>∃o,h.get? a=some o
 |.xd fs=>∃mA,h.Ns1 a mA/\∀f,Oz (fs.lookup f) (mA f)
 |.rng lo hi=>∃t u v,h.get? a=some { cls:=.type "range",data:=.fields #[.int lo t,.int hi u,.int 1 v] }
 |.frz o u=>h.get? a=some o/\Dn H h a u
 |.tbl ps=>h.get? a=some { cls:=.none,data:=.fields ps }
 |.met f x=>h.get? a=some (methodObj (.ref f) (.ref x))
 |.ext φ=>φ h/\(∃o,h.get? a=some o)/\∀h1 h2:Heap,φ h1->(∀o,h1.get? a=some o->h2.get? a=some o)->φ h2
def HOk (H:Hp) (h:Heap):Prop:=∀a o,H a=some o->Dn P w H h a o
end
section
theorem Dn.lt (x:Dn P w H h a o):a < h.objs.size:=by
 cases o with
 |lst xs=>obtain⟨_,_,_,_,e⟩:=x;exact lt_size e
 |tup xs=>obtain⟨_,_,_,p⟩:=x;exact p.lt
 |dK kvs=>obtain⟨_,_,_,_,o,_,_,e,_⟩:=x;exact lt_size e
 |dT kvs=>obtain⟨_,_,_,_,o,_,_,e,_⟩:=x;exact lt_size e
 |set S n=>obtain⟨o,_,_,_,e,_⟩:=x;exact lt_size e
 |ins C dx fs=>obtain⟨_,_,_,e,_⟩:=x;exact lt_size e
 |own y=>obtain⟨_,e⟩:=x;exact lt_size e
 |xd fs=>obtain⟨_,⟨_,_,_,e,_⟩,_⟩:=x;exact lt_size e
 |rng lo hi=>obtain⟨_,_,_,e⟩:=x;exact lt_size e
 |frz ob u=>obtain⟨e,_⟩:=x;exact lt_size e
 |tbl ps=>exact lt_size (show h.get? a=some _ from x)
 |met f y=>exact lt_size (show h.get? a=some _ from x)
 |ext φ=>obtain⟨_,⟨_,e⟩,_⟩:=x;exact lt_size e
theorem Paired.mapP {α β:Type} {F G:α->β->Prop}:∀{l₁:List α} {l₂:List β},Paired F l₁ l₂->(∀a b,F a b->G a b)->Paired G l₁ l₂
 |_,_,.nil,_=>.nil
 |_,_,.cons r t,f=>.cons (f _ _ r) (Paired.mapP t f)
theorem Dn.stay (x:Dn P w H h a o) (k:∀b u,(b=a\/H b=some (.own a))->h.get? b=some u->h'.get? b=some u)
  (ho:∀b,H b=some (.own a)->H' b=some (.own a)) (ht:∀b xs,H b=some (.tup xs)->H' b=some (.tup xs)):Dn P w H' h' a o:=by
 induction o with
 |lst xs=>obtain⟨z,its,n,r,e⟩:=x;exact⟨z,its,n,r,k _ _ (.inl rfl) e⟩
 |tup xs=>obtain⟨z,its,r,ob,e,c⟩:=x;exact⟨z,its,r,ob,k _ _ (.inl rfl) e,c⟩
 |dK kvs=>obtain⟨z,y,vs,r,ob,es,ep,e,c⟩:=x;exact⟨z,y,vs,r,ob,es,ep,k _ _ (.inl rfl) e,c⟩
 |dT kvs=>
  obtain⟨z,y,xs,r,ob,es,ep,e,c⟩:=x;exact⟨z,y,xs,Paired.mapP r fun p q z=>⟨z.1,ht _ _ z.2.1,z.2.2⟩,ob,es,ep,k _ _ (.inl rfl) e,c⟩
 |set S n=>obtain⟨ob,es,ep,t,e,c⟩:=x;exact⟨ob,es,ep,t,k _ _ (.inl rfl) e,c⟩
 |ins C dx fs=>
  obtain⟨d,z,ne,e,mA,⟨od,es,ep,e2,c⟩,r⟩:=x;exact⟨ho _ d,z,ne,k _ _ (.inl rfl) e,mA,⟨od,es,ep,k _ _ (.inr d) e2,c⟩,r⟩
 |own y=>obtain⟨ob,e⟩:=x;exact⟨ob,k _ _ (.inl rfl) e⟩
 |xd fs=>obtain⟨mA,⟨od,es,ep,e,c⟩,r⟩:=x;exact⟨mA,⟨od,es,ep,k _ _ (.inl rfl) e,c⟩,r⟩
 |rng lo hi=>obtain⟨t,u,v,e⟩:=x;exact⟨t,u,v,k _ _ (.inl rfl) e⟩
 |frz ob u ih=>obtain⟨e,q⟩:=x;exact⟨k _ _ (.inl rfl) e,ih q⟩
 |tbl ps=>
  have e:h.get? a=some { cls:=.none,data:=.fields ps }:=x;show h'.get? a=some { cls:=.none,data:=.fields ps }
  exact k a _ (.inl rfl) e
 |met f y=>
  have e:h.get? a=some (methodObj (.ref f) (.ref y)):=x;show h'.get? a=some (methodObj (.ref f) (.ref y));exact k a _ (.inl rfl) e
 |ext φ=>obtain⟨p,⟨o,e⟩,st⟩:=x;exact⟨st _ _ p fun o q=>k _ _ (.inl rfl) q,⟨o,k _ _ (.inl rfl) e⟩,st⟩
theorem HOk.lt (x:HOk P w H h) (e:H a=some o):a < h.objs.size:=(x a o e).lt
theorem HOk.fresh (x:HOk P w H h) (e:h.objs.size<=a):H a=none:=by
 cases q:H a with
 |none=>rfl
 |some u=>exact absurd (lt_of_lt_of_le (x.lt q) e) (lt_irrefl _)
theorem HOk.kept (x:HOk P w H h) (k:∀b u,h.get? b=some u->h'.get? b=some u):HOk P w H h':=fun a o e=>
 (x a o e).stay (fun b u _ q=>k b u q) (fun _ q=>q) fun _ _ q=>q
theorem HOk.laid (x:HOk P w H h) (k:∀b u,h.get? b=some u->h'.get? b=some u) (hp:h.objs.size<=a) (new:Dn P w (upd H a o) h' a o):HOk P w (upd H a o) h':=fun b u e=>by
 have hn:=x.fresh hp;by_cases hb:b=a
 .subst hb;rw[Bm] at e;cases e;exact new
 .rw[Ax hb] at e;exact(x b u e).stay (fun c v _ q=>k c v q) (fun c q=>by rw[Ax (Bv q hn)];exact q) fun c xs q=>by rw[Ax (Bv q hn)];exact q
end
def Rd (H:Hp) (a:Addr) (u:HO):Prop:=H a=some u\/∃o,H a=some (.frz o u)
theorem Rd.of {H:Hp} {a:Addr} {u:HO} (h:H a=some u):Rd H a u:=.inl h
theorem Rd.ok {P:Program} {w:World} {H:Hp} {h:Heap} {a:Addr} {u:HO} (r:Rd H a u) (x:HOk P w H h):Dn P w H h a u:=by
 rcases r with r|⟨o,r⟩
 .exact x a u r
 .obtain⟨_,q⟩:=x a _ r;exact q
def Mut:Option HO->Prop
 |some (.lst _)=>True
 |some (.dK _)=>True
 |some (.dT _)=>True
 |some (.set _ _)=>True
 |some (.ins _ _ _)=>True
 |some (.ext _)=>True
 |_=>False
section
theorem HOk.write (ok:HOk P w H h) (mu:Mut (H x)) (he:e=x\/H e=some (.own x)) (k:∀b u,b≠e->h.get? b=some u->h'.get? b=some u) (heo:∃u,h'.get? e=some u)
  (new:Dn P w (upd H x o') h' x o'):HOk P w (upd H x o') h':=fun b u q=>by
 have nown:∀c y,H c=some (.own y)->c≠x:=fun c y r z=>by subst z;rw[r] at mu;exact mu
 have ntup:∀c xs,H c=some (.tup xs)->c≠x:=fun c xs r z=>by subst z;rw[r] at mu;exact mu
 by_cases hb:b=x
 .subst hb;rw[Bm] at q;cases q;exact new
 .rw[Ax hb] at q;by_cases hbe:b=e
  .have q':H b=some (.own x):=by
    rcases he with z|z
    .exact absurd (hbe.trans z) hb
    .rw[hbe];exact z
   rw[q] at q';cases q';obtain⟨v,hv⟩:=heo;exact⟨v,by rw[hbe];exact hv⟩
  .refine(ok b u q).stay (fun c v hc r=>k c v ?_ r) (fun c r=>by rw[Ax (nown c b r)];exact r) fun c xs r=>by rw[Ax (ntup c xs r)];exact r
   rcases hc with rfl|hc
   .exact hbe
   .rintro rfl;rcases he with z|z
    .exact nown c b hc z
    .rw[hc] at z;cases z;exact hb rfl
end
structure Un (fs ex:List Addr) (H H':Hp) (h h':Heap):Prop where
 keep:∀b o,h.get? b=some o->H b=none->b∉fs->b∉ex->h'.get? b=some o
 slot:∀b o,h.get? b=some o->H b=none->b∈fs->b∉ex->∃sl,h'.get? b=some { o with slots:=sl }
 free:∀b o,h.get? b=some o->H b=none->b∉ex->H' b=none
 there:∀b o,h.get? b=some o->b∉ex->∃o',h'.get? b=some o'
 tups:∀b xs,H b=some (.tup xs)->H' b=some (.tup xs)
 frzs:∀b o u,H b=some (.frz o u)->H' b=some (.frz o u)
 tbls:∀b ps,H b=some (.tbl ps)->∃more,H' b=some (.tbl (ps ++ more))
section
theorem Un.any (u:Un fs ex H H1 h h1) {b:Addr} {ob:Obj} (q:h.get? b=some ob) (n:H b=none) (hx:b∉ex):∃sl,h1.get? b=some { ob with slots:=sl }:=by
 by_cases hb:b∈fs
 .exact u.slot b ob q n hb hx
 .exact⟨ob.slots,u.keep b ob q n hb hx⟩
theorem Un.kept (k:∀b u,h.get? b=some u->h'.get? b=some u):Un fs ex H H h h':=
 ⟨fun b ob q _ _ _=>k b ob q,fun b ob q _ _ _=>⟨ob.slots,k b ob q⟩,fun _ _ _ n _=>n,fun b ob q _=>⟨ob,k b ob q⟩,fun _ _ q=>q,fun _ _ _ q=>q,fun _ ps q=>⟨#[],by rw[q];simp⟩⟩
theorem Un.refl:Un fs ex H H h h:=Un.kept fun _ _ q=>q
theorem Un.laid (k:∀b u,h.get? b=some u->h'.get? b=some u) (hp:h.objs.size<=a) (hn:H a=none):Un fs ex H (upd H a o) h h' where
 keep:=fun b u q _ _ _=>k b u q
 slot:=fun b u q _ _ _=>⟨u.slots,k b u q⟩
 free:=fun b u q n _=>by rw[Ax (ne_of_lt (lt_of_lt_of_le (lt_size q) hp))];exact n
 there:=fun b u q _=>⟨u,k b u q⟩
 tups:=fun b xs q=>by rw[Ax (Bv q hn)];exact q
 frzs:=fun b u xs q=>by rw[Ax (Bv q hn)];exact q
 tbls:=fun b ps q=>⟨#[],by rw[Ax (Bv q hn),q];simp⟩
theorem Un.write (mu:Mut (H x)) (he:e=x\/H e=some (.own x)) (k:∀b u,b≠e->h.get? b=some u->h'.get? b=some u) (heo:∃u,h'.get? e=some u):Un fs ex H (upd H x o) h h':=by
 have hx:∀b,H b=none->b≠x:=fun b n z=>by subst z;rw[n] at mu;exact mu
 have hb:∀b,H b=none->b≠e:=fun b n z=>by
  subst z;rcases he with r|r
  .exact hx b n r
  .rw[n] at r;cases r
 have hm:∀b u,H b=some u->¬ Mut (some u)->b≠x:=fun b u q nm z=>by subst z;rw[q] at mu;exact nm mu
 refine⟨fun b u q n _ _=>k b u (hb b n) q,fun b u q n _ _=>⟨u.slots,k b u (hb b n) q⟩,fun b u q n _=>by rw[Ax (hx b n)];exact n,fun b u q _=>?_,
  fun b xs q=>by rw[Ax (hm b _ q fun z=>z)];exact q,fun b u xs q=>by rw[Ax (hm b _ q fun z=>z)];exact q,fun b ps q=>⟨#[],by rw[Ax (hm b _ q fun z=>z),q];simp⟩⟩
 by_cases hbe:b=e
 .subst hbe;exact heo
 .exact⟨u,k b u hbe q⟩
end
def trk (h:Heap) (H:Hp):List Addr:=(List.range h.objs.size).filter fun a=>(H a).isSome
def Ab9 (h:Heap) (H:Hp):Heap:=hideAll h (trk h H)
theorem Akt (h:Heap) (H:Hp):(Ab9 h H).objs.size=h.objs.size:=PySem.W.hideAll_size _ _
theorem Anm {h:Heap} {H:Hp} {b:Addr} {o:Obj} (e:h.get? b=some o) (n:H b=none):(Ab9 h H).get? b=some o:=
 hideAll_get _ e fun hm=>by
  have q:(H b).isSome=true:=(List.mem_filter.mp hm).2;rw[n] at q;simp at q
theorem Asl {h:Heap} {H:Hp} {b:Addr} {o:Obj} (e:(Ab9 h H).get? b=some o):h.get? b=some o/\H b=none:=by
 have e':h.get? b=some o:=of_hideAll (trk h H) e;refine⟨e',?_⟩;cases q:H b with
 |none=>rfl
 |some x=>
  have hm:b∈trk h H:=List.mem_filter.mpr ⟨mem_range.mpr (lt_size e'),by simp[q]⟩
  have z:(Ab9 h H).get? b=none:=hideAll_none (trk h H) hm;rw[z] at e;cases e
def Asm (g h:Heap) (L:Addr):List (Addr×Obj):=(List.range h.objs.size).filterMap fun a=>if a=L\/(g.get? a).isSome=true then none else (h.get? a).map fun o=>(a,o)
def rest (g h:Heap) (L d:Addr):List (Addr×Obj):=(Asm g h L).filter fun p=>decide (p.1≠d)
structure Mod (K:PySem.W.Frag) (mg:Str->Option Value) (base:Heap):Prop where
 kin:K.In base
 glob:base.Ns mainGlobals mg
 blt:∃mb,base.Ns builtinsNs mb/\∀x:Str,x≠"__name__"->mb x=bootBuiltins x
 nolimit:base.NoLimit
structure Cx where
 prog:Program
 w:World
 K:PySem.W.Frag
 mg:Str->Option Value
 base:Heap
 A:Around
 N:List Str
 s₀:Shared
 H₀:Hp
 env:Env
 outer:List Env
 stack:List Env
 ex:List Addr
 fn:Str->Bool
 calm:Bool
 pn:List (Addr×Obj)
 xe:Value->Shared->Prop
def frs (l:List Env):List Addr:=l.filterMap (·.frame)
abbrev Cx.fs (X:Cx):List Addr:=frs X.outer
def Vis (sc:Scope) (x:Str):Prop:=sc.names.lookup x=some .local\/sc.names.lookup x=some .cell\/sc.names.lookup x=some .free
def Loc (sc:Scope) (x:Str):Prop:=sc.names.lookup x=some .local\/sc.names.lookup x=some .cell
def Look (env:Env) (h:Heap) (m:Str->Option Value) (x:Str) (u:Value):Prop:=
 (env.kindOf x=some .local/\m x=some u)\/((env.kindOf x=some .cell\/env.kindOf x=some .free)/\∃c,env.cells.lookup x=some c/\h.IsCell c (some u))
structure Cx.Ok (X:Cx):Prop where
 mod:Mod X.K X.mg X.base
 kind:X.env.scope.kind=.function
 glob:X.env.globals=mainGlobals
 blt:X.env.builtins=builtinsNs
 above:X.s₀.heap.objs.size<=X.env.locals
 inj:∀x y c,X.env.cells.lookup x=some c->X.env.cells.lookup y=some c->x=y
 has:∀x,(X.env.kindOf x=some .cell\/X.env.kindOf x=some .free)->∃c,X.env.cells.lookup x=some c
 cab:∀x c,X.fn x=true->X.env.cells.lookup x=some c->X.s₀.heap.objs.size<=c
 hd:X.calm=true->X.A.handled=none
 frames:X.A.frames=some X.stack
 stk:X.stack=X.outer\/(X.stack=X.env::X.outer/\X.env.frame=some X.env.locals)
 exf:∀b∈X.ex,b≠X.env.locals/\∀x c,X.env.cells.lookup x=some c->c≠b
 bs:∀b o,X.base.get? b=some o->X.s₀.heap.get? b=some o/\X.H₀ b=none
 bsz:X.base.objs.size<=X.s₀.heap.objs.size
 noex:∀b o,X.base.get? b=some o->b∉X.ex
 exfs:∀b∈X.ex,b∉X.fs
 funs:X.s₀.heap.FunFrames X.base X.outer
 frf:∀b∈X.fs,X.H₀ b=none
structure Inv (X:Cx) (aa:List (Addr×Obj)) (σ:List (Option V)) (H:Hp) (s:Shared):Prop where
 ok:X.Ok
 os:s.os=X.s₀.os
 bare:AllBare s.gens
 base:Un X.fs X.ex X.H₀ H X.s₀.heap s.heap
 loc:∃m,s.heap.Ns X.env.locals m/\∀(i:Nat) (x:Str) (v:V),X.N[i]?=some x->σ[i]?=some (some v)->Vis X.env.scope x->∃u,RelV v u/\Look X.env s.heap m x u
 cell:∀x c,X.env.cells.lookup x=some c->∃v,s.heap.IsCell c v
 free:H X.env.locals=none
 freeC:∀x c,X.env.cells.lookup x=some c->H c=none
 pin:∀p∈X.pn ++ aa,s.heap.get? p.1=some p.2/\H p.1=none/\p.1≠X.env.locals/\p.1∉X.fs/\∀v,p.2.data≠.cell v
 hok:HOk X.prog X.w H s.heap
 len:σ.length=X.N.length
section
theorem Cx.Ok.nofr {X:Cx} (ok:X.Ok) {b:Addr} {o:Obj} (e:X.base.get? b=some o):b∉X.fs:=fun hb=>by
 have:=(ok.funs.mem hb).1;rw[e] at this;cases this
theorem Inv.bs {X:Cx} {aa:List (Addr×Obj)} {σ:List (Option V)} {H:Hp} {s:Shared} (I:Inv X aa σ H s):∀b o,X.base.get? b=some o->s.heap.get? b=some o/\H b=none:=fun b o e=>
 ⟨I.base.keep b o (I.ok.bs b o e).1 (I.ok.bs b o e).2 (I.ok.nofr e) (I.ok.noex b o e),I.base.free b o (I.ok.bs b o e).1 (I.ok.bs b o e).2 (I.ok.noex b o e)⟩
theorem Inv.bk (I:Inv X aa σ H s):∀b o,X.base.get? b=some o->s.heap.get? b=some o:=fun b o e=>(I.bs b o e).1
theorem Inv.mod (I:Inv X aa σ H s):Mod X.K X.mg X.base:=I.ok.mod
theorem Inv.kIn (I:Inv X aa σ H s):X.K.In s.heap:=I.ok.mod.kin.keeps I.bk
theorem Inv.lt (I:Inv X aa σ H s):X.env.locals < s.heap.objs.size:=let ⟨_,hn,_⟩:=I.loc;hn.lt
theorem Inv.sz (I:Inv X aa σ H s):X.s₀.heap.objs.size<=s.heap.objs.size:=le_trans I.ok.above (le_of_lt I.lt)
theorem Inv.nofs (I:Inv X aa σ H s) {a:Addr} (h:s.heap.objs.size<=a):a∉X.fs:=fun hb=>by
 obtain⟨_,o,ho,_⟩:=I.ok.funs.mem hb;exact absurd (lt_of_lt_of_le (lt_size ho) (le_trans I.sz h)) (lt_irrefl _)
theorem Inv.cne (I:Inv X aa σ H s):∀x c,X.env.cells.lookup x=some c->c≠X.env.locals:=fun x c e z=>by
 obtain⟨v,o,ho,hd⟩:=I.cell x c e;obtain⟨m,⟨o',es,ep,ho',hd',_⟩,_⟩:=I.loc;rw[z,ho'] at ho;cases ho;rw[hd'] at hd;cases hd
theorem Inv.funs (I:Inv X aa σ H s):s.heap.FunFrames X.base X.outer:=by
 have all:∀(l:List Env),(∀b∈frs l,b∈X.fs)->X.s₀.heap.FunFrames X.base l->s.heap.FunFrames X.base l:=by
  intro l;induction l with
  |nil=>intro _ _;trivial
  |cons env r ih=>
   intro hs hl;obtain⟨hk,⟨L,o,hf,hn,ho,hd⟩,hr⟩:=hl;have hL:L∈X.fs:=hs L (by unfold frs;rw[List.filterMap_cons,hf];exact mem_cons_self)
   obtain⟨sl,e⟩:=I.base.slot L o ho (I.ok.frf L hL) hL fun z=>I.ok.exfs L z hL
   exact⟨hk,⟨L,_,hf,hn,e,hd⟩,ih (fun b hb=>hs b (by unfold frs;rw[List.filterMap_cons,hf];exact mem_cons_of_mem _ hb)) hr⟩
 exact all X.outer (fun _ hb=>hb) I.ok.funs
theorem Inv.stack (I:Inv X aa σ H s):s.heap.FunFrames X.base X.stack:=by
 rcases I.ok.stk with e|⟨e,hf⟩
 .rw[e];exact I.funs
 .rw[e];obtain⟨m,hn,_⟩:=I.loc;refine .cons (by rw[I.ok.kind];decide) hf hn ?_ I.funs
  exact get?_none_of_le (le_trans I.ok.bsz I.ok.above)
theorem Inv.stkSub (I:Inv X aa σ H s):∀b∈frs X.stack,b∈X.env.locals::X.fs:=fun b hb=>by
 rcases I.ok.stk with e|⟨e,hf⟩
 .rw[e] at hb;exact mem_cons_of_mem _ hb
 .rw[e] at hb;unfold frs at hb;rw[List.filterMap_cons,hf] at hb;exact hb
theorem Inv.stkFree (I:Inv X aa σ H s):∀b∈frs X.stack,H b=none:=fun b hb=>by
 rcases mem_cons.mp (I.stkSub b hb) with e|hb
 .rw[e];exact I.free
 .obtain⟨_,o,ho,_⟩:=I.ok.funs.mem hb;exact I.base.free b o ho (I.ok.frf b hb) fun z=>I.ok.exfs b z hb
theorem Inv.step {g':Array GenState} {t':Nat} {d':Drawn} {ch:List Addr} (I:Inv X aa σ H s)
  (hch:∀b∈ch,(b∈X.ex\/X.s₀.heap.objs.size<=b)/\b≠X.env.locals/\(∀x c,X.env.cells.lookup x=some c->c≠b)/\∀p∈X.pn ++ aa,p.1≠b)
  (keep:∀b o,b≠X.env.locals->b∉X.fs->b∉ch->s.heap.get? b=some o->H b=none->h'.get? b=some o)
  (slot:∀b o,b≠X.env.locals->b∈X.fs->b∉ch->s.heap.get? b=some o->H b=none->∃sl,h'.get? b=some { o with slots:=sl }) (free:∀b o,b∉ch->s.heap.get? b=some o->H b=none->H' b=none)
  (there:∀b o,b∉ch->s.heap.get? b=some o->∃o',h'.get? b=some o')
  (tups:∀b xs,H b=some (.tup xs)->H' b=some (.tup xs)) (frzs:∀b o u,H b=some (.frz o u)->H' b=some (.frz o u)) (tbls:∀b ps,H b=some (.tbl ps)->∃more,H' b=some (.tbl (ps ++ more)))
  (ns:∀m,s.heap.Ns X.env.locals m->h'.Ns X.env.locals m) (hok:HOk X.prog X.w H' h') (hg:AllBare g') :
  Inv X aa σ H' { s with heap:=h',gens:=g',drawn:=d',toks:=t' }:=by
 have neL:∀b o,X.s₀.heap.get? b=some o->b≠X.env.locals:=fun b o e=>ne_of_lt (lt_of_lt_of_le (lt_size e) I.ok.above);have neC:∀b o,X.s₀.heap.get? b=some o->b∉X.ex->b∉ch:=fun b o e hx hb=>by
  rcases(hch b hb).1 with z|z
  .exact hx z
  .exact absurd (lt_of_lt_of_le (lt_size e) z) (lt_irrefl _)
 have cellK:∀x c,X.env.cells.lookup x=some c->∀v,s.heap.IsCell c v->h'.IsCell c v:=fun x c e v ⟨o,ho,hd⟩=>by
  have nch:c∉ch:=fun z=>(hch c z).2.2.1 x c e rfl;by_cases hc:c∈X.fs
  .obtain⟨sl,q⟩:=slot c o (I.cne x c e) hc nch ho (I.freeC x c e);exact⟨_,q,hd⟩
  .exact⟨o,keep c o (I.cne x c e) hc nch ho (I.freeC x c e),hd⟩
 refine⟨I.ok,I.os,hg,⟨fun b o e n hb hx=>?_,fun b o e n hb hx=>?_,fun b o e n hx=>?_,fun b o e hx=>?_,fun b xs e=>tups b xs (I.base.tups b xs e),fun b o xs e=>frzs b o xs (I.base.frzs b o xs e),fun b ps e=>?_⟩,?_,fun x c e=>?_,?_,fun x c e=>?_,fun p hp=>?_,hok,I.len⟩
 .exact keep b o (neL b o e) hb (neC b o e hx) (I.base.keep b o e n hb hx) (I.base.free b o e n hx)
 .obtain⟨sl,e1⟩:=I.base.slot b o e n hb hx;obtain⟨sl',e2⟩:=slot b _ (neL b o e) hb (neC b o e hx) e1 (I.base.free b o e n hx);exact⟨sl',e2⟩
 .obtain⟨o',e1⟩:=I.base.there b o e hx;exact free b o' (neC b o e hx) e1 (I.base.free b o e n hx)
 .obtain⟨o',e1⟩:=I.base.there b o e hx;exact there b o' (neC b o e hx) e1
 .obtain⟨m1,e1⟩:=I.base.tbls b ps e;obtain⟨m2,e2⟩:=tbls b _ e1;exact⟨m1 ++ m2,by rw[e2,Array.append_assoc]⟩
 .obtain⟨m,hn,hl⟩:=I.loc;refine⟨m,ns m hn,fun i x v e1 e2 e3=>?_⟩;obtain⟨u,r,l⟩:=hl i x v e1 e2 e3;refine⟨u,r,?_⟩;rcases l with l|⟨k,c,e,z⟩
  .exact .inl l
  .exact .inr ⟨k,c,e,cellK x c e _ z⟩
 .obtain⟨v,z⟩:=I.cell x c e;exact⟨v,cellK x c e v z⟩
 .obtain⟨m,⟨o,_,_,ho,_⟩,_⟩:=I.loc;exact free _ o (fun z=>(hch _ z).2.1 rfl) ho I.free
 .obtain⟨v,o,ho,hd⟩:=I.cell x c e;exact free c o (fun z=>(hch c z).2.2.1 x c e rfl) ho (I.freeC x c e)
 .obtain⟨e,n,ne,nf,d⟩:=I.pin p hp;have nch:p.1∉ch:=fun z=>(hch p.1 z).2.2.2 p hp rfl;exact⟨keep p.1 p.2 ne nf nch e n,free p.1 p.2 nch e n,ne,nf,d⟩
theorem Inv.un {t':Nat} (I:Inv X aa σ H s) (u:Un X.fs [] H H' s.heap h') (hok:HOk X.prog X.w H' h'):Inv X aa σ H' { s with heap:=h',toks:=t' }:=by
 obtain⟨m,⟨o,es,ep,ho,r⟩,_⟩:=id I.loc;obtain⟨sl,hL⟩:=u.any ho I.free (by simp)
 exact I.step (g':=s.gens) (d':=s.drawn) (ch:=[]) (fun _ z=>nomatch z) (fun b o _ hb _ e n=>u.keep b o e n hb (by simp)) (fun b o _ hb _ e n=>u.slot b o e n hb (by simp)) (fun b o _ e n=>u.free b o e n (by simp)) (fun b o _ e=>u.there b o e (by simp)) u.tups u.frzs u.tbls (fun m' hm=>by
  obtain⟨o',es',ep',ho',r'⟩:=hm;rw[ho] at ho';cases ho';exact⟨_,es',ep',hL,r'⟩) hok I.bare
theorem Inv.call {g':Array GenState} {t':Nat} {d':Drawn} {ch:List Addr} (I:Inv X aa σ H s) (u:Un (frs X.stack) ch H H' s.heap h') (hok:HOk X.prog X.w H' h') (hg:AllBare g')
  (hch:∀b∈ch,(b∈X.ex\/X.s₀.heap.objs.size<=b)/\b≠X.env.locals/\(∀x c,X.env.cells.lookup x=some c->c≠b)/\∀p∈X.pn ++ aa,p.1≠b) :
  Inv X aa σ H' { s with heap:=h',gens:=g',drawn:=d',toks:=t' }:=by
 obtain⟨m,⟨o,es,ep,ho,r⟩,_⟩:=id I.loc;obtain⟨sl,hL⟩:=u.any ho I.free fun z=>(hch _ z).2.1 rfl
 exact I.step (ch:=ch) hch (fun b o hL hb hc e n=>u.keep b o e n (fun z=>(mem_cons.mp (I.stkSub b z)).elim hL hb) hc) (fun b o _ _ hc e n=>u.any e n hc) (fun b o hc e n=>u.free b o e n hc) (fun b o hc e=>u.there b o e hc) u.tups u.frzs u.tbls (fun m' hm=>by
  obtain⟨o',es',ep',ho',r'⟩:=hm;rw[ho] at ho';cases ho';exact⟨_,es',ep',hL,r'⟩) hok hg
theorem Inv.turned {t':Nat} {it:Addr} (I:Inv X aa σ H s) (k:∀b o,b≠it->s.heap.get? b=some o->h'.get? b=some o) (hn:H it=none) (hL:it≠X.env.locals)
  (h1:it∈X.ex\/X.s₀.heap.objs.size<=it) (h2:∀x c,X.env.cells.lookup x=some c->c≠it) (h3:∀p∈X.pn ++ aa,p.1≠it):Inv X aa σ H { s with heap:=h',toks:=t' }:=by
 have nit:∀b u,H b=some u->b≠it:=fun b u e z=>by rw[z,hn] at e;cases e
 refine I.step (g':=s.gens) (d':=s.drawn) (ch:=[it]) (fun b hb=>?_) (fun b o _ _ hc e _=>k b o (fun z=>hc (by simp[z])) e) (fun b o _ _ hc e _=>⟨o.slots,k b o (fun z=>hc (by simp[z])) e⟩) (fun _ _ _ _ n=>n)
  (fun b o hc e=>⟨o,k b o (fun z=>hc (by simp[z])) e⟩) (fun _ _ e=>e) (fun _ _ _ e=>e) (fun b ps e=>⟨#[],by rw[e];simp⟩) (fun m hm=>?_) (fun b u e=>?_) I.bare
 .have e:b=it:=by simpa using hb
  subst e;exact⟨h1,hL,h2,h3⟩
 .obtain⟨o,es,ep,ho,r⟩:=hm;exact⟨o,es,ep,k _ o (Ne.symm hL) ho,r⟩
 .refine(I.hok b u e).stay (fun c v hc q=>k c v ?_ q) (fun _ q=>q) fun _ _ q=>q;rcases hc with z|z
  .rw[z];exact nit b u e
  .exact nit c _ z
theorem Inv.tok (I:Inv X aa σ H s) (t:Nat):Inv X aa σ H { s with toks:=t }:=I.un (h':=s.heap) (t':=t) Un.refl I.hok
theorem Inv.kept {t':Nat} (I:Inv X aa σ H s) (k:∀b u,s.heap.get? b=some u->h'.get? b=some u):Inv X aa σ H { s with heap:=h',toks:=t' }:=I.un (Un.kept k) (I.hok.kept k)
theorem Inv.laid {a:Addr} {o:HO} {t':Nat} (I:Inv X aa σ H s) (k:∀b u,s.heap.get? b=some u->h'.get? b=some u) (hp:s.heap.objs.size<=a) (new:Dn X.prog X.w (upd H a o) h' a o) :
  Inv X aa σ (upd H a o) { s with heap:=h',toks:=t' }:=I.un (Un.laid k hp (I.hok.fresh hp)) (I.hok.laid k hp new)
theorem Inv.write {x e:Addr} {o:HO} {t':Nat} (I:Inv X aa σ H s) (mu:Mut (H x)) (he:e=x\/H e=some (.own x)) (k:∀b u,b≠e->s.heap.get? b=some u->h'.get? b=some u) (heo:∃u,h'.get? e=some u)
  (new:Dn X.prog X.w (upd H x o) h' x o):Inv X aa σ (upd H x o) { s with heap:=h',toks:=t' }:=I.un (Un.write mu he k heo) (I.hok.write mu he k heo new)
theorem Inv.pins_of {pins':List (Addr×Obj)} (I:Inv X aa σ H s) (h:∀p∈pins',s.heap.get? p.1=some p.2/\H p.1=none/\p.1≠X.env.locals/\p.1∉X.fs/\∀v,p.2.data≠.cell v):Inv X pins' σ H s:=
 ⟨I.ok,I.os,I.bare,I.base,I.loc,I.cell,I.free,I.freeC,fun p hp=>(mem_append.mp hp).elim (fun z=>I.pin p (List.mem_append_left _ z)) (h p),I.hok,I.len⟩
theorem Xu {N:List Str} (hN:N.Nodup) {i j:Nat} {x:Str} (a:N[i]?=some x) (b:N[j]?=some x):i=j:=by
 obtain⟨h1,e1⟩:=List.getElem?_eq_some_iff.mp a;obtain⟨h2,e2⟩:=List.getElem?_eq_some_iff.mp b;exact(getElem_inj hN).mp (e1.trans e2.symm)
theorem Aku {M:Model} {A:Around} {E:Value->Shared->Prop} {i:Nat} {x:Str} {v:V} {u:Value} {Q:Unit->Shared->Prop} (I:Inv X aa σ H s) (hN:X.N.Nodup) (hi:X.N[i]?=some x) (hx:Loc X.env.scope x) (r:RelV v u)
  (h:∀s',Inv X aa (σ.set i (some v)) H s'->(∃a,SameBut a s.heap s'.heap/\(a=X.env.locals\/X.env.cells.lookup x=some a))->Q () s') (hf:X.fn x=true\/X.env.scope.names.lookup x=some .local:=by first|exact .inl rfl|exact .inr rfl|assumption):wpAny M A (storeName X.env x u) Q E s:=by
 obtain⟨m,hn,hl⟩:=id I.loc;have hcls:(X.env.scope.kind==.class||(X.env.scope.kind==.module&&X.env.locals != X.env.globals))=false:=by rw[I.ok.kind];rfl
 have hiσ:i < σ.length:=by rw[I.len];exact(List.getElem?_eq_some_iff.mp hi).1
 have cne:=I.cne;have tracked:∀{a:Addr} {h':Heap},(∃o,s.heap.get? a=some o/\H a=none)->SameBut a s.heap h'->HOk X.prog X.w H h':=fun {a h'} ha hs b ob e=>by
  obtain⟨_,_,bc⟩:=ha;refine(I.hok b ob e).stay (fun c w' hc q=>(hs.2 c ?_).trans q) (fun _ q=>q) fun _ _ q=>q;rintro rfl;rcases hc with rfl|hc
  .rw[bc] at e;cases e
  .rw[bc] at hc;cases hc
 rcases hx with hk|hk
 .refine wpAny_storeName_local hk hn (fun h' hn' hs=>?_) hcls;obtain⟨oL,_,_,hoL,_⟩:=id hn;refine h _ ⟨I.ok,I.os,I.bare,⟨fun b o e n hb hx=>?_,fun b o e n hb hx=>?_,I.base.free,fun b o e hx=>?_,I.base.tups,I.base.frzs,I.base.tbls⟩,⟨_,hn',fun j y v' e1 e2 e3=>?_⟩,fun y c e=>?_,I.free,I.freeC,fun p hp=>?_,tracked ⟨oL,hoL,I.free⟩ hs,by simpa using I.len⟩ ⟨_,hs,.inl rfl⟩
  .exact(hs.2 b (ne_of_lt (lt_of_lt_of_le (lt_size e) I.ok.above))).trans (I.base.keep b o e n hb hx)
  .obtain⟨sl,e1⟩:=I.base.slot b o e n hb hx;exact⟨sl,(hs.2 b (ne_of_lt (lt_of_lt_of_le (lt_size e) I.ok.above))).trans e1⟩
  .obtain⟨o',e1⟩:=I.base.there b o e hx;exact⟨o',(hs.2 b (ne_of_lt (lt_of_lt_of_le (lt_size e) I.ok.above))).trans e1⟩
  .by_cases hj:j=i
   .subst hj;rw[hi] at e1;cases e1;rw[getElem?_set_self hiσ] at e2;cases e2;exact⟨u,r,.inl ⟨hk,by simp⟩⟩
   .rw[getElem?_set_ne (Ne.symm hj)] at e2;obtain⟨u',r',q⟩:=hl j y v' e1 e2 e3;refine⟨u',r',?_⟩;rcases q with ⟨k,e⟩|⟨k,c,e,z⟩
    .refine .inl ⟨k,?_⟩;have:y≠x:=fun e=>hj (Xu hN e1 (e ▸ hi));simp[this,e]
    .exact .inr ⟨k,c,e,z.sameBut hs (cne y c e)⟩
  .obtain⟨w',z⟩:=I.cell y c e;exact⟨w',z.sameBut hs (cne y c e)⟩
  .obtain⟨e,n,ne,nf,d⟩:=I.pin p hp;exact⟨(hs.2 p.1 ne).trans e,n,ne,nf,d⟩
 .have hfn:X.fn x=true:=by
   rcases hf with z|z
   .exact z
   .rw[z] at hk;cases hk
  obtain⟨c,hc⟩:=I.ok.has x (.inl hk);obtain⟨w',z⟩:=I.cell x c hc;refine wpAny_storeName_cell I.ok.kind hk hc z (fun h' hc' hs=>?_);obtain⟨oc,hoc,hocd⟩:=id z;refine h { s with heap:=h' } ⟨I.ok,I.os,I.bare,⟨fun b o e n hb hx=>?_,fun b o e n hb hx=>?_,I.base.free,fun b o e hx=>?_,I.base.tups,I.base.frzs,I.base.tbls⟩,⟨m,hn.sameBut hs (Ne.symm (cne x c hc)),fun j y v' e1 e2 e3=>?_⟩,fun y c' e=>?_,I.free,I.freeC,fun p hp=>?_,tracked ⟨oc,hoc,I.freeC x c hc⟩ hs,by simpa using I.len⟩ ⟨c,hs,.inr hc⟩
  .exact(hs.2 b (ne_of_lt (lt_of_lt_of_le (lt_size e) (I.ok.cab x c hfn hc)))).trans (I.base.keep b o e n hb hx)
  .obtain⟨sl,e1⟩:=I.base.slot b o e n hb hx;exact⟨sl,(hs.2 b (ne_of_lt (lt_of_lt_of_le (lt_size e) (I.ok.cab x c hfn hc)))).trans e1⟩
  .obtain⟨o',e1⟩:=I.base.there b o e hx;exact⟨o',(hs.2 b (ne_of_lt (lt_of_lt_of_le (lt_size e) (I.ok.cab x c hfn hc)))).trans e1⟩
  .by_cases hj:j=i
   .subst hj;rw[hi] at e1;cases e1;rw[getElem?_set_self hiσ] at e2;cases e2;exact⟨u,r,.inr ⟨.inl hk,c,hc,hc'⟩⟩
   .rw[getElem?_set_ne (Ne.symm hj)] at e2;obtain⟨u',r',q⟩:=hl j y v' e1 e2 e3;refine⟨u',r',?_⟩;rcases q with q|⟨k,c',e,z'⟩
    .exact .inl q
    .refine .inr ⟨k,c',e,z'.sameBut hs ?_⟩;rintro rfl;exact hj (Xu hN e1 (I.ok.inj _ _ _ e hc ▸ hi))
  .by_cases hcc:c'=c
   .subst hcc;exact⟨_,hc'⟩
   .obtain⟨w2,z2⟩:=I.cell y c' e;exact⟨w2,z2.sameBut hs hcc⟩
  .obtain⟨e,n,ne,nf,d⟩:=I.pin p hp;refine⟨(hs.2 p.1 ?_).trans e,n,ne,nf,d⟩;intro q;rw[q,hoc] at e;have q':oc=p.2:=Option.some.inj e;exact d w' (by rw[<-q'];exact hocd)
theorem Xv {M:Model} {A:Around} {E:Value->Shared->Prop} {i:Nat} {x:Str} {v:V} {u:Value} {Q:Unit->Shared->Prop} (I:Inv X aa σ H s) (hN:X.N.Nodup) (hi:X.N[i]?=some x) (hx:Loc X.env.scope x) (r:RelV v u)
  (h:∀s',Inv X aa (σ.set i (some v)) H s'->Q () s') (hf:X.fn x=true\/X.env.scope.names.lookup x=some .local:=by first|exact .inl rfl|exact .inr rfl|assumption):wpAny M A (storeName X.env x u) Q E s:=
 Aku I hN hi hx r (fun s' I' _=>h s' I') hf
theorem Inv.call' {s':Shared} {ch:List Addr} (I:Inv X aa σ H s) (ho:s'.os=s.os) (u:Un (frs X.stack) ch H H' s.heap s'.heap) (hok:HOk X.prog X.w H' s'.heap) (hg:AllBare s'.gens)
  (hch:∀b∈ch,(b∈X.ex\/X.s₀.heap.objs.size<=b)/\b≠X.env.locals/\(∀x c,X.env.cells.lookup x=some c->c≠b)/\∀p∈X.pn ++ aa,p.1≠b):Inv X aa σ H' s':=by
 obtain⟨h',g',d',t',o'⟩:=s';have e:o'=s.os:=ho;subst e;exact I.call (g':=g') (t':=t') (d':=d') u hok hg hch
end
abbrev XK:=Value->Option (Nat×Option Addr)->Hp->Prop
abbrev St:=List (Option V)
abbrev VK:=V->Hp->Prop
abbrev TE:=St->Hp->VK->Prop
abbrev TT:=St->Hp->(Bool->Hp->Prop)->Prop
abbrev TA:=St->Hp->(List V->Hp->Prop)->Prop
structure Ends where
 nx:St->Hp->Prop
 rt:VK
 bk:St->Hp->Prop:=fun _ _=>False
 ct:St->Hp->Prop:=fun _ _=>False
abbrev TS:=Ends->St->Hp->Prop
def EP (X:Cx) (aa:List (Addr×Obj)) (σ:St) (Q:VK) (u:Value) (s':Shared):Prop:=∃v H',Inv X aa σ H' s'/\RelV v u/\Q v H'
def TP (X:Cx) (aa:List (Addr×Obj)) (σ:St) (Q:Bool->Hp->Prop) (b:Bool) (s':Shared):Prop:=∃H',Inv X aa σ H' s'/\Q b H'
def AP (X:Cx) (aa:List (Addr×Obj)) (σ:St) (Q:List V->Hp->Prop) (us:List Value) (s':Shared):Prop:=∃vs H',Inv X aa σ H' s'/\Vals vs us/\Q vs H'
def SP (X:Cx) (aa:List (Addr×Obj)) (D:Ends) (f:Flow) (s':Shared):Prop:=
 match f with
 |.next=>∃σ' H',Inv X aa σ' H' s'/\D.nx σ' H'
 |.brk=>∃σ' H',Inv X aa σ' H' s'/\D.bk σ' H'
 |.cont=>∃σ' H',Inv X aa σ' H' s'/\D.ct σ' H'
 |.ret u=>∃v σ' H',Inv X aa σ' H' s'/\RelV v u/\D.rt v H'
def PE (X:Cx) (e:Expr) (t:TE):Prop:=
 ∀(aa:List (Addr×Obj)) (s:Shared) (σ:St) (H:Hp) (Q:VK),Inv X aa σ H s->t σ H Q->wpAny (model X.prog X.w) X.A (eval e X.env) (EP X aa σ Q) X.xe s
def PT (X:Cx) (e:Expr) (t:TT):Prop:=
 ∀(aa:List (Addr×Obj)) (s:Shared) (σ:St) (H:Hp) (Q:Bool->Hp->Prop),Inv X aa σ H s->t σ H Q->wpAny (model X.prog X.w) X.A (isTrue e X.env (eval e X.env)) (TP X aa σ Q) X.xe s
def PW (X:Cx) (e:Expr) (t:TT):Prop:=
 ∀(whole:Sem Value) (aa:List (Addr×Obj)) (s:Shared) (σ:St) (H:Hp) (Q:Bool->Hp->Prop),Inv X aa σ H s->t σ H Q->wpAny (model X.prog X.w) X.A (isTrue e X.env whole) (TP X aa σ Q) X.xe s
theorem PW.pt {X:Cx} {e:Expr} {t:TT} (h:PW X e t):PT X e t:=h _
def PA (X:Cx) (es:List Expr) (t:TA):Prop:=
 ∀(pos:Pos) (aa:List (Addr×Obj)) (s:Shared) (σ:St) (H:Hp) (Q:List V->Hp->Prop),Inv X aa σ H s->t σ H Q->wpAny (model X.prog X.w) X.A (spliced (backTo pos (starEach es X.env))) (AP X aa σ Q) X.xe s
def PS (X:Cx) (st:Stmt) (t:TS):Prop:=
 ∀(aa:List (Addr×Obj)) (s:Shared) (σ:St) (H:Hp) (D:Ends),Inv X aa σ H s->t D σ H->wpAny (model X.prog X.w) X.A (exec st X.env) (SP X aa D) X.xe s
def PSs (X:Cx) (st:List Stmt) (t:TS):Prop:=
 ∀(aa:List (Addr×Obj)) (s:Shared) (σ:St) (H:Hp) (D:Ends),Inv X aa σ H s->t D σ H->wpAny (model X.prog X.w) X.A (execs st X.env) (SP X aa D) X.xe s
theorem thn {α:Type} {t:Sem α} {Q Q':α->Shared->Prop} {M:Model} {A:Around} {E:Value->Shared->Prop} {s:Shared} (h:wpAny M A t Q E s) (hQ:∀a s,Q a s->Q' a s):wpAny M A t Q' E s:=wpAny_mono h hQ fun _ _ x=>x
section
theorem bin {a b:Expr} {ta tb:TE} (ha:PE X a ta) (hb:PE X b tb) {aa:List (Addr×Obj)} {s:Shared} {σ:St} {H:Hp} {R:V->V->Hp->Prop} (I:Inv X aa σ H s) (h:ta σ H fun x H1=>tb σ H1 fun y H2=>R x y H2)
  {α:Type} {Q:α->Shared->Prop} {f:Value->Value->Sem α}
  (hf:∀v u s2 x y H2,Inv X aa σ H2 s2->RelV x v->RelV y u->R x y H2->wpAny (model X.prog X.w) X.A (f v u) Q X.xe s2) :
  wpAny (model X.prog X.w) X.A (eval a X.env) (fun v s₁=>wpAny (model X.prog X.w) X.A (eval b X.env) (fun u s₂=>wpAny (model X.prog X.w) X.A (f v u) Q X.xe s₂) X.xe s₁) X.xe s:=by
 refine thn (ha aa s σ H _ I h) fun v s1 ⟨x,H1,I1,r1,q1⟩=>?_;refine thn (hb aa s1 σ H1 _ I1 q1) fun u s2 ⟨y,H2,I2,r2,q2⟩=>?_;exact hf v u s2 x y H2 I2 r1 r2 q2
def Ayc (i:Nat):TE:=fun σ H Q=>∃v,σ[i]?=some (some v)/\Q v H
def tC (v:V):TE:=fun _ H Q=>Q v H
theorem Xw {i:Nat} {x:Str} {pos:Pos} (hN:X.N[i]?=some x) (hv:Vis X.env.scope x) (hd:(x==("__debug__":Str))=false:=by decide) (hcd:(x==("__classdict__":Str))=false:=by decide):PE X (.Name x pos) (Ayc i):=by
 intro aa s σ H Q I h;obtain⟨v,e,h⟩:=h;obtain⟨m,hn,hl⟩:=I.loc;obtain⟨u,r,l⟩:=hl i x v hN e hv;have fin:EP X aa σ Q u s:=⟨v,H,I,r,h⟩;rcases l with ⟨hk,hm⟩|⟨hk,c,hc,ao⟩
 .exact wpAny_Name (wpAny_loadName_local I.ok.kind hk hn hm fin) hd
 .rcases hk with hk|hk
  .exact wpAny_Name (wpAny_loadName_cell I.ok.kind hk hc ao fin) hd
  .exact wpAny_Name (wpAny_loadName_free I.ok.kind hk hc ao fin hcd) hd
theorem Ann {i j pos}:PE X (.Constant (.int i) j pos) (tC (.int i)):=fun _ _ _ H _ I h=>wpAny_Constant_int ⟨.int i,H,I.tok _,⟨_,rfl⟩,h⟩
theorem Bco {b j pos}:PE X (.Constant (.bool b) j pos) (tC (.bl b)):=fun _ _ _ H _ I h=>Constant_bool ⟨.bl b,H,I,rfl,h⟩
theorem Ayd {j pos}:PE X (.Constant .none j pos) (tC .non):=fun _ _ _ H _ I h=>Constant_none ⟨.non,H,I,rfl,h⟩
theorem Aye {x j pos}:PE X (.Constant (.str x) j pos) (tC (.str x)):=fun _ _ _ H _ I h=>Calls.Constant_str ⟨.str x,H,I.tok _,⟨_,rfl⟩,h⟩
def Gl (X:Cx) (x:Str):Prop:=X.env.kindOf x=some .globalImplicit
theorem Lh {E:Value->Shared->Prop} {aa:List (Addr×Obj)} {s:Shared} {σ:St} {H:Hp} {x:Str} {u:Value} {pos:Pos} {Q:Value->Shared->Prop} (I:Inv X aa σ H s) (hg:Gl X x) (hm:X.mg x=some u) (h:Q u s)
  (hd:(x==("__debug__":Str))=false:=by decide):wpAny (model X.prog X.w) X.A (eval (.Name x pos) X.env) Q E s:=
 Calls.Name_function_global I.ok.kind hg (Calls.loadGlobal_global (by rw[I.ok.glob];exact I.mod.glob.keeps I.bk) hm h) hd
theorem Va {E:Value->Shared->Prop} {aa:List (Addr×Obj)} {s:Shared} {σ:St} {H:Hp} {x:Str} {u:Value} {pos:Pos} {Q:Value->Shared->Prop} (I:Inv X aa σ H s) (hg:Gl X x) (hm:X.mg x=none) (hv:bootBuiltins x=some u) (h:Q u s)
  (hn:x≠"__name__":=by decide) (hd:(x==("__debug__":Str))=false:=by decide):wpAny (model X.prog X.w) X.A (eval (.Name x pos) X.env) Q E s:=by
 obtain⟨mb,h1,h2⟩:=I.mod.blt;exact Calls.Name_function_global I.ok.kind hg (Calls.loadGlobal_builtin (by rw[I.ok.glob];exact I.mod.glob.keeps I.bk) hm (by rw[I.ok.blt];exact h1.keeps I.bk) ((h2 x hn).trans hv) h) hd
theorem Asn {x:Str} {v:V} {u:Value} {pos:Pos} (hg:Gl X x) (hm:X.mg x=some u) (r:RelV v u) (hd:(x==("__debug__":Str))=false:=by decide):PE X (.Name x pos) (tC v):=
 fun _ _ _ H _ I h=>Lh I hg hm ⟨v,H,I,r,h⟩ hd
theorem Aso {x:Str} {v:V} {u:Value} {pos:Pos} (hg:Gl X x) (hm:X.mg x=none) (hv:bootBuiltins x=some u) (r:RelV v u) (hn:x≠"__name__":=by decide) (hd:(x==("__debug__":Str))=false:=by decide):PE X (.Name x pos) (tC v):=
 fun _ _ _ H _ I h=>Va I hg hm hv ⟨v,H,I,r,h⟩ hn hd
def PC (X:Cx) (op:CmpOp) (a b:Expr) (t:TE):Prop:=
 ∀(aa:List (Addr×Obj)) (s:Shared) (σ:St) (H:Hp) (Q:VK),Inv X aa σ H s->t σ H Q->
  wpAny (model X.prog X.w) X.A (eval a X.env) (fun v s₁=>wpAny (model X.prog X.w) X.A (eval b X.env) (fun u s₂=>wpAny (model X.prog X.w) X.A (compareOp op v u) (EP X aa σ Q) X.xe s₂) X.xe s₁) X.xe s
theorem Ano (b:Expr) {op:CmpOp} (h:op≠.In) (h2:op≠.NotIn):behindInMarks op b=false:=by
 have e1:(op==CmpOp.In)=false:=by cases op <;> first|rfl|exact absurd rfl h
 have e2:(op==CmpOp.NotIn)=false:=by cases op <;> first|rfl|exact absurd rfl h2
 cases b <;> simp[behindInMarks,e1,e2]
def tB (t:TE):TT:=fun σ H Q=>t σ H fun x H1=>∃c,x=.bl c/\Q c H1
theorem Bfs {op:CmpOp} {t:TE} (h:PC X op a b t) (h1:behindInMarks op b=false:=by first|exact Ano _ (by decide) (by decide)|rfl):PT X (.Compare a [op] [b] pos) (tB t):=by
 intro aa s σ H Q I hw;refine wpAny_isTrue_Compare1 (thn (h aa s σ H _ I hw) fun v s1 h1=>thn h1 fun u s2 h2=>thn h2 fun c s3 ⟨x,H1,I1,r1,q1⟩=>?_) h1;obtain⟨d,rfl,q⟩:=q1;cases r1;exact wpAny_truthy_bool ⟨H1,I1,q⟩
theorem Ayf {e:Expr} {t:TE} (h:PE X e t) (he:∀whole,isTrue e X.env whole=(do let v<-whole;standAt e.pos;holding [v] (truthy v)):=by intro _;rfl):PT X e (tB t):=by
 intro aa s σ H Q I hw;refine isTrue_plain (thn (h aa s σ H _ I hw) fun v s1 ⟨x,H1,I1,r1,q1⟩=>?_) (he _);obtain⟨d,rfl,q⟩:=q1;cases r1;exact wpAny_truthy_bool ⟨H1,I1,q⟩
def Bcp (t u:TT):TT:=fun σ H Q=>t σ H fun c H1=>if c=true then u σ H1 Q else Q false H1
def tOr (t u:TT):TT:=fun σ H Q=>t σ H fun c H1=>if c=true then Q true H1 else u σ H1 Q
def Bcq (t:TT):TT:=fun σ H Q=>t σ H fun c H1=>Q (!c) H1
theorem Asp (ha:PT X a tA):PW X (.BoolOp .And [a] pos) tA:=by
 intro wh aa s σ H Q I h;refine isTrue_and (thn (ha aa s σ H Q I h) fun c s1 e=>?_);cases c with
 |true=>exact isTrue_and_nil e
 |false=>exact e
theorem Ayg (ha:PT X a tA):PW X (.BoolOp .Or [a] pos) tA:=by
 intro wh aa s σ H Q I h;refine isTrue_or (thn (ha aa s σ H Q I h) fun c s1 e=>?_);cases c with
 |false=>exact isTrue_or_nil e
 |true=>exact e
theorem Ayh {X:Cx} {a b:Expr} {pos:Pos} {tA tB':TT} {rest:List Expr} (ha:PT X a tA) (hb:PW X (.BoolOp .And (b::rest) pos) tB'):PW X (.BoolOp .And (a::b::rest) pos) (Bcp tA tB'):=by
 intro wh aa s σ H Q I h;refine isTrue_and (thn (ha aa s σ H _ I h) fun c s1 ⟨H1,I1,q1⟩=>?_);cases c with
 |true=>exact hb wh aa s1 σ H1 Q I1 q1
 |false=>exact⟨H1,I1,q1⟩
theorem Bcr {X:Cx} {a b:Expr} {pos:Pos} {tA tB':TT} {rest:List Expr} (ha:PT X a tA) (hb:PW X (.BoolOp .Or (b::rest) pos) tB'):PW X (.BoolOp .Or (a::b::rest) pos) (tOr tA tB'):=by
 intro wh aa s σ H Q I h;refine isTrue_or (thn (ha aa s σ H _ I h) fun c s1 ⟨H1,I1,q1⟩=>?_);cases c with
 |true=>exact⟨H1,I1,q1⟩
 |false=>exact hb wh aa s1 σ H1 Q I1 q1
theorem Ayi (ha:PT X a tA):PT X (.UnaryOp .Not a pos) (Bcq tA):=by
 intro aa s σ H Q I h;exact isTrue_not (ha aa s σ H (fun c H1=>Q (!c) H1) I h)
def Axk (ta tb:TE):TE:=fun σ H Q=>ta σ H fun x H1=>∃c,x=.bl c/\if c=true then tb σ H1 Q else Q (.bl false) H1
def Bcs (ta tb:TE):TE:=fun σ H Q=>ta σ H fun x H1=>∃c,x=.bl c/\if c=true then Q (.bl true) H1 else tb σ H1 Q
def Axl (ta:TE):TE:=fun σ H Q=>ta σ H fun x H1=>∃c,x=.bl c/\Q (.bl (!c)) H1
theorem Ayj {op} {t:TE} (h:PE X a t):PE X (.BoolOp op [a] pos) t:=fun aa s σ H Q I hw=>BoolOp_one (h aa s σ H Q I hw)
theorem Ayk {X:Cx} {a b:Expr} {ta tb:TE} {pos:Pos} {rest:List Expr} (ha:PE X a ta) (hb:PE X (.BoolOp .And (b::rest) pos) tb):PE X (.BoolOp .And (a::b::rest) pos) (Axk ta tb):=by
 intro aa s σ H Q I h;refine BoolOp_and (thn (ha aa s σ H _ I h) fun v s1 ⟨x,H1,I1,r1,q1⟩=>?_);obtain⟨c,rfl,q1⟩:=q1;cases r1;refine wpAny_truthy_bool ?_;cases c with
 |true=>exact hb aa s1 σ H1 Q I1 q1
 |false=>exact⟨.bl false,H1,I1,rfl,q1⟩
theorem Bct {X:Cx} {a b:Expr} {ta tb:TE} {pos:Pos} {rest:List Expr} (ha:PE X a ta) (hb:PE X (.BoolOp .Or (b::rest) pos) tb):PE X (.BoolOp .Or (a::b::rest) pos) (Bcs ta tb):=by
 intro aa s σ H Q I h;refine BoolOp_or (thn (ha aa s σ H _ I h) fun v s1 ⟨x,H1,I1,r1,q1⟩=>?_);obtain⟨c,rfl,q1⟩:=q1;cases r1;refine wpAny_truthy_bool ?_;cases c with
 |false=>exact hb aa s1 σ H1 Q I1 q1
 |true=>exact⟨.bl true,H1,I1,rfl,q1⟩
theorem Ayl (ha:PE X a ta):PE X (.UnaryOp .Not a pos) (Axl ta):=by
 intro aa s σ H Q I h;refine UnaryOp_ (thn (ha aa s σ H _ I h) fun v s1 ⟨x,H1,I1,r1,q1⟩=>?_);obtain⟨c,rfl,q1⟩:=q1;cases r1;exact not_of (wpAny_truthy_bool ⟨.bl (!c),H1,I1,rfl,q1⟩)
end
def SqL (K:PySem.W.Frag) (H:Hp) (a:Addr) (xs:List V):Prop:=
 Rd H a (.lst xs)\/
  ∃(o:Obj) (its:Array Value) (n:Nat),K.lookup a=some o/\o.cls=.type "list"/\o.dict=none/\o.data=.seq its n/\its.size<=sizeLine/\Vals xs its.toList
def SqT (K:PySem.W.Frag) (H:Hp) (a:Addr) (xs:List V):Prop:=
 Rd H a (.tup xs)\/
  ∃(o:Obj) (its:Array Value) (n:Nat),K.lookup a=some o/\o.cls=.type "tuple"/\o.data=.seq its n/\its.size<=sizeLine/\Vals xs its.toList
def Bft:Value->Option V
 |.none=>some .non
 |.bool b=>some (.bl b)
 |.int i _=>some (.int i)
 |.str x _=>some (.str x)
 |.bytes b _=>some (.byt b)
 |.float b _=>some (.flt b)
 |.ref a=>some (.ref a)
 |.type n=>some (.ty n)
 |_=>none
theorem RelV.abs {x:V} {u:Value} (r:RelV x u):Bft u=some x:=by
 cases x with
 |non=>cases r;rfl
 |bl _=>cases r;rfl
 |int _=>obtain⟨t,rfl⟩:=r;rfl
 |str _=>obtain⟨t,rfl⟩:=r;rfl
 |byt _=>obtain⟨t,rfl⟩:=r;rfl
 |flt _=>obtain⟨t,rfl⟩:=r;rfl
 |ref _=>cases r;rfl
 |ty _=>cases r;rfl
theorem RelV.inj {x y:V} {u:Value} (r:RelV x u) (q:RelV y u):x=y:=Option.some.inj (r.abs.symm.trans q.abs)
theorem Vals.inj:∀{xs ys:List V} {us:List Value},Vals xs us->Vals ys us->xs=ys
 |_,_,_,.nil,.nil=>rfl
 |_,_,_,.cons r t,.cons r' t'=>by rw[r.inj r',Vals.inj t t']
section
theorem SqT.of {K:PySem.W.Frag} (h:H a=some (.tup xs)):SqT K H a xs:=.inl (.inl h)
theorem Inv.list (I:Inv X aa σ H s) (h:SqL X.K H a xs):∃its:List Value,Vals xs its/\PlainL s.heap a its.toArray/\xs.length<=sizeLine:=by
 rcases h with h|⟨o,its,n,hk,hc,hd,hs,hz,r⟩
 .obtain⟨z,its,n,r,e⟩:=h.ok I.hok;exact⟨its,r,⟨_,n,e,rfl,rfl,rfl⟩,z⟩
 .refine⟨its.toList,r,⟨o,n,I.kIn a o hk,hc,hd,by simpa using hs⟩,?_⟩
  have e:=r.length;simp only[length_toList] at e;omega
theorem Inv.tuple (I:Inv X aa σ H s) (h:SqT X.K H a xs):∃its:List Value,Vals xs its/\IsTup s.heap a its.toArray/\xs.length<=sizeLine:=by
 rcases h with h|⟨o,its,n,hk,hc,hs,hz,r⟩
 .obtain⟨z,its,r,p⟩:=h.ok I.hok;exact⟨its,r,p,z⟩
 .refine⟨its.toList,r,⟨o,I.kIn a o hk,hc,n,by simpa using hs⟩,?_⟩
  have e:=r.length;simp only[length_toList] at e;omega
theorem Inv.list_inj (I:Inv X aa σ H s) (h:SqL X.K H a xs) (h':SqL X.K H a ys):xs=ys:=by
 obtain⟨its,r,⟨o,n,e,_,_,d⟩,_⟩:=I.list h;obtain⟨its',r',⟨o',n',e',_,_,d'⟩,_⟩:=I.list h';rw[e] at e';cases e';rw[d] at d';injection d' with d1 _
 have:its=its':=by simpa using congrArg toList d1
 subst this;exact r.inj r'
theorem Inv.tuple_inj (I:Inv X aa σ H s) (h:SqT X.K H a xs) (h':SqT X.K H a ys):xs=ys:=by
 obtain⟨its,r,⟨o,e,_,n,d⟩,_⟩:=I.tuple h;obtain⟨its',r',⟨o',e',_,n',d'⟩,_⟩:=I.tuple h';rw[e] at e';cases e';rw[d] at d';injection d' with d1 _
 have:its=its':=by simpa using congrArg toList d1
 subst this;exact r.inj r'
end
section
def Anp:TS:=fun D σ H=>D.nx σ H
def Bcu (t u:TS):TS:=fun D σ H=>t { D with nx:=u D } σ H
theorem Asq:PSs X [] Anp:=fun _ _ σ H _ I h=>wpAny_execs_nil ⟨σ,H,I,h⟩
theorem Ad9 {X:Cx} {st:Stmt} {rest:List Stmt} {t u:TS} (h1:PS X st t) (h2:PSs X rest u):PSs X (st::rest) (Bcu t u):=by
 intro aa s σ H D I h;refine wpAny_execs_cons (thn (h1 aa s σ H { D with nx:=u D } I h) fun f s1 q=>?_)
 cases f with
 |next=>
  obtain⟨σ',H',I',q⟩:=q;exact h2 aa s1 σ' H' D I' q
 |ret v=>exact q
 |brk=>exact q
 |cont=>exact q
theorem Asr {X:Cx} {st:Stmt} {t:TS} (h1:PS X st t):PSs X [st] t:=by
 intro aa s σ H D I h;refine wpAny_execs_cons (thn (h1 aa s σ H D I h) fun f s1 q=>?_);cases f with
 |next=>exact wpAny_execs_nil q
 |ret v=>exact q
 |brk=>exact q
 |cont=>exact q
def Aym:TS:=fun D σ H=>D.bk σ H
def Bcv:TS:=fun D σ H=>D.ct σ H
theorem Ass:PS X (.Pass pos) Anp:=fun _ _ σ H _ I h=>wpAny_Pass ⟨σ,H,I,h⟩
theorem Anq:PS X (.Break pos) Aym:=fun _ _ σ H _ I h=>wpAny_Break ⟨σ,H,I,h⟩
theorem Aea:PS X (.Continue pos) Bcv:=fun _ _ σ H _ I h=>wpAny_Continue ⟨σ,H,I,h⟩
theorem Inv.quiet {aa:List (Addr×Obj)} {σ:St} {H:Hp} {s:Shared} (I:Inv X aa σ H s):interactive X.env=false:=by simp[interactive,I.ok.kind]
def Axm (te:TE):TS:=fun D σ H=>te σ H fun _ H1=>D.nx σ H1
theorem Aiv (he:PE X e te) (hs:swapsWith e none pos.line X.env=pure false:=by rfl):PS X (.Expr e pos) (Axm te):=by
 intro aa s σ H D I h;exact wpAny_Expr_any (thn (he aa s σ H _ I h) fun v s1 ⟨x,H1,I1,r1,q1⟩=>⟨σ,H1,I1,q1⟩) I.quiet hs
def Bcw (te:TE):TS:=fun D σ H=>te σ H D.rt
theorem Ayn (he:PE X e te):PS X (.Return (some e) pos) (Bcw te):=by
 intro aa s σ H D I h;exact wpAny_Return_some (thn (he aa s σ H _ I h) fun v s1 ⟨x,H1,I1,r1,q1⟩=>⟨x,σ,H1,I1,r1,q1⟩)
def Bcx:TS:=fun D _ H=>D.rt .non H
theorem Ast:PS X (.Return none pos) Bcx:=fun _ _ σ H _ I h=>wpAny_Return_none ⟨.non,σ,H,I,rfl,h⟩
def Bcy (c:TT) (t u:TS):TS:=fun D σ H=>c σ H fun b H1=>if b=true then t D σ H1 else u D σ H1
theorem Bcz {c:Expr} {a b:List Stmt} {tc:TT} (hc:PT X c tc) (ha:PSs X a t) (hb:PSs X b u):PS X (.If c a b pos) (Bcy tc t u):=by
 intro aa s σ H D I h;refine wpAny_If (thn (hc aa s σ H _ I h) fun d s1 ⟨H1,I1,q1⟩=>?_);cases d with
 |true=>exact ha aa s1 σ H1 D I1 q1
 |false=>exact hb aa s1 σ H1 D I1 q1
end
abbrev TG:=V->St->Hp->(St->Hp->Prop)->Prop
abbrev TGs:=List V->St->Hp->(St->Hp->Prop)->Prop
def PG (X:Cx) (target:Expr) (t:TG):Prop:=
 ∀(aa:List (Addr×Obj)) (s:Shared) (σ:St) (H:Hp) (v:V) (u:Value) (Q:St->Hp->Prop),Inv X aa σ H s->RelV v u->t v σ H Q->
  wpAny (model X.prog X.w) X.A (assign target X.env u) (fun _ s'=>∃σ' H',Inv X aa σ' H' s'/\Q σ' H') X.xe s
def PGs (X:Cx) (ts:List Expr) (t:TGs):Prop:=
 ∀(aa:List (Addr×Obj)) (s:Shared) (σ:St) (H:Hp) (vs:List V) (us:List Value) (Q:St->Hp->Prop),Inv X aa σ H s->Vals vs us->t vs σ H Q->
  wpAny (model X.prog X.w) X.A (assignInOrder ((assignEach ts X.env).map (·.2)) us) (fun _ s'=>∃σ' H',Inv X aa σ' H' s'/\Q σ' H') X.xe s
section
def Mp (i:Nat):TG:=fun v σ H Q=>Q (σ.set i (some v)) H
theorem Asu {i:Nat} {x:Str} (hN:X.N.Nodup) (hi:X.N[i]?=some x) (hx:Loc X.env.scope x) (hf:X.fn x=true\/X.env.scope.names.lookup x=some .local:=by first|exact .inl rfl|exact .inr rfl|assumption):PG X (.Name x pos) (Mp i):=by
 intro aa s σ H v u Q I r h;exact wpAny_assign_Name (Xv I hN hi hx r (fun s' I'=>⟨_,H,I',h⟩) hf)
def Bc0:TGs:=fun vs σ H Q=>vs=[]/\Q σ H
def Axn (t:TG) (u:TGs):TGs:=fun vs σ H Q=>∃v r,vs=v::r/\t v σ H fun σ' H'=>u r σ' H' Q
theorem Asv:PGs X [] Bc0:=by
 intro aa s σ H vs us Q I r h;obtain⟨e,h⟩:=h;subst e;cases r;exact assignInOrder_nil ⟨σ,H,I,h⟩
theorem Anr {e:Expr} {es:List Expr} {t:TG} {u:TGs} (h1:PG X e t) (h2:PGs X es u)
  (hs:(assignEach (e::es) X.env).map (·.2)=assign e X.env::(assignEach es X.env).map (·.2):=by rfl):PGs X (e::es) (Axn t u):=by
 intro aa s σ H vs us Q I r h;obtain⟨v,vr,e1,h⟩:=h;subst e1;cases r with
 |cons r rr=>
  rw[hs];refine assignInOrder_cons (thn (h1 aa s σ H _ _ _ I r h) fun _ s1 ⟨σ1,H1,I1,q1⟩=>?_);exact h2 aa s1 σ1 H1 _ _ Q I1 rr q1
def Ayo (K:PySem.W.Frag) (n:Nat) (t:TGs):TG:=fun v σ H Q=>∃a xs,v=.ref a/\SqT K H a xs/\xs.length=n/\t xs σ H Q
theorem Ayp {es:List Expr} {k:Nat} {t:TGs} {n:Nat} (hc:X.calm=true) (h:PGs X es t)
  (hn:(assignEach es X.env).length=n:=by rfl) (hst:(assignEach es X.env).findIdx? (·.1)=none:=by rfl):PG X (.Tuple es k pos) (Ayo X.K n t):=by
 intro aa s σ H v u Q I r hw;obtain⟨a,xs,e1,hq,hl,hw⟩:=hw;subst e1;cases r;obtain⟨its,rv,ht,hz⟩:=I.tuple hq;refine assign_Tuple_tuple (I.ok.hd hc) ht (by simp[hn,<-hl,rv.length]) hst fun h' hx=>?_
 have I1:Inv X aa σ H { s with heap:=h' }:=I.kept (t':=s.toks) fun b o e=>hx b o (ne_of_lt (lt_size e)) e
 exact h aa _ σ H xs _ Q I1 (by simpa using rv) hw
def Asw (te:TE) (g:TG):TS:=fun D σ H=>te σ H fun x H1=>g x σ H1 D.nx
theorem Ayq {i:Nat} {x:Str} {e:Expr} {te:TE} {pos':Pos} (hN:X.N.Nodup) (hi:X.N[i]?=some x) (hx:Loc X.env.scope x) (he:PE X e te) (hs:swapsWith e (some (.Name x pos')) pos.line X.env=pure false:=by rfl) (hf:X.fn x=true\/X.env.scope.names.lookup x=some .local:=by first|exact .inl rfl|exact .inr rfl|assumption) :
  PS X (.Assign [.Name x pos'] e pos) (Asw te (Mp i)):=by
 intro aa s σ H D I h;refine wpAny_Assign_Name (thn (he aa s σ H _ I h) fun v s1 ⟨y,H1,I1,r1,q1⟩=>?_) hs;exact Xv I1 hN hi hx r1 (fun s2 I2=>⟨_,H1,I2,q1⟩) hf
end
section
def Ayr (c:TT) (tb:TS):TS:=fun D σ H=>∃W:Nat->St->Hp->Prop,(∃m,W m σ H)/\∀m σ H,W m σ H->
 c σ H fun b H1=>if b=true then ∃N:St->Hp->Prop,(∀σ' H',N σ' H'->∃m',m' < m/\W m' σ' H')/\tb { D with nx:=N,ct:=N,bk:=D.nx } σ H1 else D.nx σ H1
theorem Ans {c:Expr} {body:List Stmt} {tc:TT} {tb:TS} (hp:PassesOwn (model X.prog X.w) X.A X.env X.xe) (hc:PT X c tc) (hb:PSs X body tb):PS X (.While c body [] pos) (Ayr tc tb):=by
 intro aa s σ H D I h;obtain⟨W,⟨m0,w0⟩,turn⟩:=h;refine wpAny_While (codeAny_whileLoop (fun n s'=>∃σ' H',Inv X aa σ' H' s'/\W n σ' H') ?_ m0 ⟨σ,H,I,w0⟩);rintro n s1 ⟨σ1,H1,I1,w1⟩;refine wpAny_passesOwn hp (thn (hc aa s1 σ1 H1 _ I1 (turn n σ1 H1 w1)) fun b s2 ⟨H2,I2,q2⟩=>?_);cases b with
 |true=>
  obtain⟨N,hN,q2⟩:=q2;rw[if_pos rfl];refine wpAny_passesOwn hp (thn (hb aa s2 σ1 H2 _ I2 q2) fun f s3 q3=>?_);cases f with
  |next=>
   obtain⟨σ3,H3,I3,n3⟩:=q3;obtain⟨m',hm,w3⟩:=hN σ3 H3 n3;exact⟨m',hm,σ3,H3,I3,w3⟩
  |cont=>
   obtain⟨σ3,H3,I3,n3⟩:=q3;obtain⟨m',hm,w3⟩:=hN σ3 H3 n3;exact⟨m',hm,σ3,H3,I3,w3⟩
  |brk=>exact q3
  |ret v=>exact q3
 |false=>
  rw[if_neg Bool.false_ne_true];exact wpAny_execs_nil ⟨σ1,H2,I2,q2⟩
end
structure It where
 go:Nat->Hp->Prop
 yld:Nat->Hp->V->Hp->Prop
 stop:Nat->Hp->Prop
def Xx (X:Cx) (aa:List (Addr×Obj)) (H:Hp) (b:Addr):Prop:=
 H b=none/\b≠X.env.locals/\b∉X.fs/\(b∈X.ex\/X.s₀.heap.objs.size<=b)/\(∀x c,X.env.cells.lookup x=some c->c≠b)/\∀p∈X.pn ++ aa,p.1≠b
theorem Inv.fpOk {X:Cx} {aa:List (Addr×Obj)} {σ:St} {H H':Hp} {s:Shared} {b:Addr} (I:Inv X aa σ H s) (hb:s.heap.objs.size<=b) (hn:H' b=none):Xx X aa H' b:=by
 refine⟨hn,ne_of_gt (lt_of_lt_of_le I.lt hb),I.nofs hb,.inr (le_trans I.sz hb),fun x c e z=>?_,fun p hp z=>?_⟩
 .obtain⟨v,q⟩:=I.cell x c e;exact absurd (lt_of_lt_of_le q.lt (by rw[z];exact hb)) (lt_irrefl _)
 .exact absurd (lt_of_lt_of_le (lt_size (I.pin p hp).1) (by rw[z];exact hb)) (lt_irrefl _)
structure Turn (P:Program) (w:World) (K:PySem.W.Frag) (tg:Expr) (J:It) (fp:List Addr) (it:Addr) (tn:Nat->Heap->Prop):Prop where
 mem:it∈fp
 obj:∀i h,tn i h->∀b∈fp,∃o,h.get? b=some o/\∀v,o.data≠.cell v
 keep:∀i h h',tn i h->(∀b∈fp,∀o,h.get? b=some o->h'.get? b=some o)->tn i h'
 item:∀(X:Cx),X.prog=P->X.w=w->X.K=K->X.calm=true->∀(i:Nat) (aa:List (Addr×Obj)) (s:Shared) (σ:St) (H:Hp) (E:Value->Shared->Prop),Inv X aa σ H s->(∀b∈fp,Xx X aa H b)->tn i s.heap->J.go i H->
  wpAny (model P w) X.A (pyNext (.ref it)) (fun r s1=>∃u,r=some u/\
   wpAny (model P w) X.A (letOwnedTupleGo tg (.ref it) u) (fun _ s2=>∃x H',Inv X aa σ H' s2/\RelV x u/\J.yld i H x H'/\tn (i+1) s2.heap/\∀b∈fp,H' b=none) E s1) E s
 done:∀(X:Cx),X.prog=P->X.w=w->X.K=K->X.calm=true->∀(i:Nat) (aa:List (Addr×Obj)) (s:Shared) (σ:St) (H:Hp) (E:Value->Shared->Prop),Inv X aa σ H s->(∀b∈fp,Xx X aa H b)->tn i s.heap->J.stop i H->
  wpAny (model P w) X.A (pyNext (.ref it)) (fun r s1=>r=none/\Inv X aa σ H s1) E s
 self:∀(A:Around) (i:Nat) (s:Shared) (Q:Value->Shared->Prop) (E:Value->Shared->Prop),tn i s.heap->Q (.ref it) s->wpAny (model P w) A (pyIter (.ref it)) Q E s
abbrev TI:=St->Hp->(It->Hp->Prop)->Prop
def PIE (X:Cx) (aa:List (Addr×Obj)) (σ:St) (tg:Expr) (R:It->Hp->Prop) (itv:Value) (s2:Shared):Prop:=
 ∃(it:Addr) (fp:List Addr) (tn:Nat->Heap->Prop) (J:It) (H':Hp),itv=.ref it/\Inv X aa σ H' s2/\Turn X.prog X.w X.K tg J fp it tn/\tn 0 s2.heap/\(∀b∈fp,Xx X aa H' b)/\R J H'
def PI (X:Cx) (tg iter:Expr) (wi:TI):Prop:=
 ∀(aa:List (Addr×Obj)) (s:Shared) (σ:St) (H:Hp) (R:It->Hp->Prop),Inv X aa σ H s->wi σ H R->
  wpAny (model X.prog X.w) X.A (eval iter X.env) (fun v s1=>wpAny (model X.prog X.w) X.A (pyIter v) (PIE X aa σ tg R) X.xe s1) X.xe s
theorem Aiw {M:Model} {A:Around} {E:Value->Shared->Prop} {s:Shared} {tg:Expr} {it:Addr} {u:Value} {o:Obj} {n:String} {vs:Array Value} {Q:Unit->Shared->Prop} (ho:s.heap.get? it=some o) (hc:o.cls=.type n) (hd:o.data=.fields vs)
  (hn:["enumerate","zip","dict_itemiterator","dict_reverseitemiterator","odict_iterator","itertools.zip_longest","itertools.pairwise"].contains n=false) (hQ:Q () s):wpAny M A (letOwnedTupleGo tg (.ref it) u) Q E s:=by
 unfold letOwnedTupleGo;cases tg <;> first
  |exact wpAny_pure hQ
  |(cases u <;> first
    |exact wpAny_pure hQ
    |(refine wpAny_bind (wpAny_load ho ?_);rw[hc,hd];show wpAny M A (if (["enumerate","zip","dict_itemiterator","dict_reverseitemiterator","odict_iterator","itertools.zip_longest","itertools.pairwise"].contains n&&vs[0]?==some (rawInt _))=true then _ else _) Q E s;rw[if_neg (by intro h;rw[hn,Bool.false_and] at h;cases h)];exact wpAny_pure hQ))
def Itl (K:PySem.W.Frag) (a:Addr):It:=
 ⟨fun i H=>∃xs x,SqL K H a xs/\xs[i]?=some x,fun i H x H'=>H'=H/\∀xs,SqL K H a xs->xs[i]?=some x,fun i H=>∃xs,SqL K H a xs/\xs.length<=i⟩
def Itt (K:PySem.W.Frag) (a:Addr):It:=
 ⟨fun i H=>∃xs x,SqT K H a xs/\xs[i]?=some x,fun i H x H'=>H'=H/\∀xs,SqT K H a xs->xs[i]?=some x,fun i H=>∃xs,SqT K H a xs/\xs.length<=i⟩
def Itr (lo:Int) (n:Nat):It:=⟨fun i _=>i < n,fun i H x H'=>H'=H/\x=.int (lo+i),fun i _=>n<=i⟩
theorem Akv {P:Program} {w:World} {K:PySem.W.Frag} {tg:Expr} (a it:Addr):Turn P w K tg (Itl K a) [it] it (fun i h=>h.IsListIter it a i) where
 mem:=by simp
 obj:=fun i h st b hb=>by
  have e:b=it:=by simpa using hb
  subst e;obtain⟨o,e,c,d⟩:=st;exact⟨o,e,fun v z=>by rw[d] at z;cases z⟩
 keep:=fun i h h' st k=>st.at fun o e=>k it (by simp) o e
 item:=by
  intro X hP hw hK hc i aa s σ H E I hf st hg;subst hP hw hK;obtain⟨xs,x,hq,hx⟩:=hg;obtain⟨its,rv,p,hz⟩:=I.list hq;obtain⟨u,hu,ru⟩:=rv.get hx;obtain⟨f0,f1,f2,f3,f4,f5⟩:=hf it (by simp)
  refine wpAny_pyNext_list_item st p.isList (x:=u) (by simpa using hu) fun h' st' sb=>?_
  have I1:Inv X aa σ H { s with heap:=h' }:=I.turned (t':=s.toks) (fun b o hb e=>(sb.2 b hb).trans e) f0 f1 f3 f4 f5
  obtain⟨o,e,c,d⟩:=id st';exact⟨u,rfl,Aiw (s:={ s with heap:=h' }) e c d (by decide) ⟨x,H,I1,ru,⟨rfl,fun ys hy=>by rw[I.list_inj hy hq];exact hx⟩,st',fun b hb=>(hf b hb).1⟩⟩
 done:=by
  intro X hP hw hK hc i aa s σ H E I hf st hg;subst hP hw hK;obtain⟨xs,hq,hx⟩:=hg;obtain⟨its,rv,p,hz⟩:=I.list hq;obtain⟨f0,f1,f2,f3,f4,f5⟩:=hf it (by simp)
  have hl:=rv.length;exact wpAny_pyNext_list_end (I.ok.hd hc) st p.isList (by simp;omega) fun h' eb=>⟨rfl,I.turned (t':=s.toks) (fun b o hb e=>eb b o hb e) f0 f1 f3 f4 f5⟩
 self:=fun _ _ _ _ _ st h=>wpAny_pyIter_listiter st h
theorem Ago {P:Program} {w:World} {K:PySem.W.Frag} {tg:Expr} (a it:Addr):Turn P w K tg (Itt K a) [it] it (fun i h=>h.IsTupleIter it a i) where
 mem:=by simp
 obj:=fun i h st b hb=>by
  have e:b=it:=by simpa using hb
  subst e;obtain⟨o,e,c,d⟩:=st;exact⟨o,e,fun v z=>by rw[d] at z;cases z⟩
 keep:=fun i h h' st k=>st.at fun o e=>k it (by simp) o e
 item:=by
  intro X hP hw hK hc i aa s σ H E I hf st hg;subst hP hw hK;obtain⟨xs,x,hq,hx⟩:=hg;obtain⟨its,rv,p,hz⟩:=I.tuple hq;obtain⟨u,hu,ru⟩:=rv.get hx;obtain⟨f0,f1,f2,f3,f4,f5⟩:=hf it (by simp)
  refine wpAny_pyNext_tuple_item st (show s.heap.IsTuple a its.toArray from p) (x:=u) (by simpa using hu) fun h' st' sb=>?_
  have I1:Inv X aa σ H { s with heap:=h' }:=I.turned (t':=s.toks) (fun b o hb e=>(sb.2 b hb).trans e) f0 f1 f3 f4 f5
  obtain⟨o,e,c,d⟩:=id st';exact⟨u,rfl,Aiw (s:={ s with heap:=h' }) e c d (by decide) ⟨x,H,I1,ru,⟨rfl,fun ys hy=>by rw[I.tuple_inj hy hq];exact hx⟩,st',fun b hb=>(hf b hb).1⟩⟩
 done:=by
  intro X hP hw hK hc i aa s σ H E I hf st hg;subst hP hw hK;obtain⟨xs,hq,hx⟩:=hg;obtain⟨its,rv,p,hz⟩:=I.tuple hq;obtain⟨f0,f1,f2,f3,f4,f5⟩:=hf it (by simp)
  have hl:=rv.length;exact wpAny_pyNext_tuple_end (I.ok.hd hc) st (show s.heap.IsTuple a its.toArray from p) (by simp;omega) fun h' eb=>⟨rfl,I.turned (t':=s.toks) (fun b o hb e=>eb b o hb e) f0 f1 f3 f4 f5⟩
 self:=fun _ _ _ _ _ st h=>wpAny_pyIter_tupleiter st h
theorem Agp {P:Program} {w:World} {K:PySem.W.Frag} {tg:Expr} (it:Addr) (lo:Int) (n:Nat):Turn P w K tg (Itr lo n) [it] it (fun i h=>IsRangeIter h it (lo+(i:Nat) * 1) ((n:Int) - (i:Nat)) 1) where
 mem:=by simp
 obj:=fun i h st b hb=>by
  have e:b=it:=by simpa using hb
  subst e;exact⟨_,st,fun v z=>by
   have z':Data.fields _=Data.cell v:=z;cases z'⟩
 keep:=fun i h h' st k=>k it (by simp) _ st
 item:=by
  intro X hP hw hK hc i aa s σ H E I hf st hg;subst hP hw hK;obtain⟨f0,f1,f2,f3,f4,f5⟩:=hf it (by simp)
  have W:=Walks.range (prog:=X.prog) (w:=X.w) (I.ok.hd hc) it lo 1 n;refine W.item i s _ _ hg st fun v h' tk hv st' kk=>?_;obtain⟨t,rfl⟩:=hv;have I1:Inv X aa σ H { s with heap:=h',toks:=tk }:=I.turned (fun b o hb e=>kk b o (by simpa using hb) e) f0 f1 f3 f4 f5
  refine⟨_,rfl,Aiw (s:={ s with heap:=h',toks:=tk }) (n:="range_iterator") st' rfl rfl (by decide) ⟨.int (lo+i),H,I1,⟨t,?_⟩,⟨rfl,rfl⟩,st',fun b hb=>(hf b hb).1⟩⟩
  rw[Int.mul_one]
 done:=by
  intro X hP hw hK hc i aa s σ H E I hf st hg;subst hP hw hK;obtain⟨f0,f1,f2,f3,f4,f5⟩:=hf it (by simp)
  exact wpAny_pyNext_range_end (I.ok.hd hc) st (by have:n<=i:=hg;omega) fun h' eb=>⟨rfl,I.turned (t':=s.toks) (fun b o hb e=>eb b o hb e) f0 f1 f3 f4 f5⟩
 self:=fun _ _ _ _ _ st h=>wpAny_pyIter_rangeiter st h
section
def Axo (K:PySem.W.Frag) (tl:TE):TI:=fun σ H R=>tl σ H fun x H1=>∃a,x=.ref a/\(∃xs,SqL K H1 a xs)/\R (Itl K a) H1
def Bc1 (K:PySem.W.Frag) (tl:TE):TI:=fun σ H R=>tl σ H fun x H1=>∃a,x=.ref a/\(∃xs,SqT K H1 a xs)/\R (Itt K a) H1
theorem Asx {l:Expr} {tl:TE} (hl:PE X l tl):PI X tg l (Axo X.K tl):=by
 intro aa s σ H R I h;refine thn (hl aa s σ H _ I h) fun v s1 ⟨x,H1,I1,r1,q1⟩=>?_;obtain⟨a,e,⟨xs,hq⟩,q⟩:=q1;subst e;cases r1;obtain⟨its,rv,p,hz⟩:=I1.list hq;refine wpAny_pyIter_list p.isList ?_;refine⟨s1.heap.objs.size,[s1.heap.objs.size],_,_,H1,rfl,I1.kept (t':=s1.toks) fun b o e=>get?_push_of_some _ e,Akv a _,⟨_,get?_push_size _ rfl,rfl,rfl⟩,fun b hb=>?_,q⟩;have e:b=s1.heap.objs.size:=by simpa using hb
 subst e;exact I1.fpOk (le_refl _) (I1.hok.fresh (le_refl _))
theorem Ays {l:Expr} {tl:TE} (hl:PE X l tl):PI X tg l (Bc1 X.K tl):=by
 intro aa s σ H R I h;refine thn (hl aa s σ H _ I h) fun v s1 ⟨x,H1,I1,r1,q1⟩=>?_;obtain⟨a,e,⟨xs,hq⟩,q⟩:=q1;subst e;cases r1;obtain⟨its,rv,p,hz⟩:=I1.tuple hq;refine wpAny_pyIter_tuple (show s1.heap.IsTuple a its.toArray from p) ?_;refine⟨s1.heap.objs.size,[s1.heap.objs.size],_,_,H1,rfl,I1.kept (t':=s1.toks) fun b o e=>get?_push_of_some _ e,Ago a _,⟨_,get?_push_size _ rfl,rfl,rfl⟩,fun b hb=>?_,q⟩;have e:b=s1.heap.objs.size:=by simpa using hb
 subst e;exact I1.fpOk (le_refl _) (I1.hok.fresh (le_refl _))
theorem Ant {aa:List (Addr×Obj)} {σ:St} {H:Hp} {s:Shared} {R:It->Hp->Prop} {E:Value->Shared->Prop} {lo hi:Int} {t u v:Tok} {tk:Nat} (I:Inv X aa σ H s) (h1:-(2 ^ 62)<=lo) (h2:lo < 2 ^ 62) (h3:-(2 ^ 62)<=hi) (h4:hi < 2 ^ 62)
  (q:R (Itr lo (hi - lo).toNat) H):wpAny (model X.prog X.w) X.A (pyIter (.ref s.heap.objs.size)) (PIE X aa σ tg R) E { s with heap:=s.heap.push { cls:=.type "range",data:=.fields #[.int lo t,.int hi u,.int 1 v] },toks:=tk }:=by
 refine wpAny_pyIter_range (IsRange.new ..) (small_one h1 h2 h3 h4) ?_;have I1:Inv X aa σ H { s with heap:=s.heap.push { cls:=.type "range",data:=.fields #[.int lo t,.int hi u,.int 1 v] },toks:=tk }:=I.kept fun b o e=>get?_push_of_some _ e
 refine⟨(s.heap.push { cls:=.type "range",data:=.fields #[.int lo t,.int hi u,.int 1 v] }).objs.size,[(s.heap.push { cls:=.type "range",data:=.fields #[.int lo t,.int hi u,.int 1 v] }).objs.size],_,_,H,rfl,
  I1.kept (t':=tk) fun b o e=>get?_push_of_some _ e,Agp _ lo (hi - lo).toNat,?_,fun b hb=>?_,q⟩
 .have e1:lo+((0:Nat):Int) * 1=lo:=by simp
  have e2:(((hi - lo).toNat:Nat):Int) - ((0:Nat):Int)=Builtin.Range.rangeSize lo hi 1:=by rw[rangeSize_one];split <;> omega
  show IsRangeIter _ _ (lo+((0:Nat):Int) * 1) ((((hi - lo).toNat:Nat):Int) - ((0:Nat):Int)) 1;rw[e1,e2];exact get?_push_size _ rfl
 .have e:b=(s.heap.push { cls:=.type "range",data:=.fields #[.int lo t,.int hi u,.int 1 v] }).objs.size:=by simpa using hb
  subst e;exact I1.fpOk (le_refl _) (I1.hok.fresh (le_refl _))
def Axp (ta:TA):TI:=fun σ H R=>ta σ H fun vs H1=>∃j:Int,vs=[.int j]/\-(2 ^ 62)<=j/\j < 2 ^ 62/\R (Itr 0 j.toNat) H1
theorem Akw {a:Expr} {ta:TA} {p pos:Pos} (hg:Gl X "range") (hm:X.mg "range"=none) (ha:PA X [a] ta) (hs:starEach [a] X.env=[(false,eval a X.env)]:=by rfl):PI X tg (.Call (.Name "range" p) [a] [] pos) (Axp ta):=by
 intro aa s σ H R I h;refine Call_ (Va I hg hm boot_range (PyProof.Rows.callWith_type1 (thn (ha pos aa s σ H _ I h) fun us s1 ⟨vs,H1,I1,r1,q1⟩=>?_) hs rfl));obtain⟨j,e,q1,q2,q⟩:=q1;subst e;cases r1 with
 |cons r rr=>
  cases rr;obtain⟨t,rfl⟩:=r;exact call_range_1 (Ant I1 (by omega) (by omega) q1 q2 (by simpa using q))
def Bfu (wi:TI) (g:TG) (tb:TS):TS:=fun D σ H=>wi σ H fun J H1=>∃W:Nat->Nat->St->Hp->Prop,(∃m,W 0 m σ H1)/\∀i m σ H,W i m σ H->
 (J.stop i H/\D.nx σ H)\/(J.go i H/\∃N:St->Hp->Prop,(∀σ' H',N σ' H'->∃m',m' < m/\W (i+1) m' σ' H')/\∀x H',J.yld i H x H'->g x σ H' fun σ2 H2=>tb { D with nx:=N,ct:=N,bk:=D.nx } σ2 H2)
def Xy (fp:List Addr) (h:Heap):List (Addr×Obj):=fp.filterMap fun b=>(h.get? b).map fun o=>(b,o)
theorem Kg {fp:List Addr} {h:Heap} {b:Addr} {o:Obj} (hb:b∈fp) (e:h.get? b=some o):(b,o)∈Xy fp h:=mem_filterMap.mpr ⟨b,hb,by rw[e];rfl⟩
theorem Akx {fp:List Addr} {h:Heap} {p:Addr×Obj} (hp:p∈Xy fp h):p.1∈fp/\h.get? p.1=some p.2:=by
 obtain⟨b,hb,e⟩:=mem_filterMap.mp hp;cases q:h.get? b with
 |none=>rw[q] at e;cases e
 |some o=>
  rw[q] at e;have e':(b,o)=p:=Option.some.inj e;subst e';exact⟨hb,q⟩
theorem Inv.pinned {aa:List (Addr×Obj)} {σ:St} {H:Hp} {s:Shared} {fp:List Addr} (I:Inv X aa σ H s) (hf:∀b∈fp,Xx X aa H b) (ho:∀b∈fp,∃o,s.heap.get? b=some o/\∀v,o.data≠.cell v):Inv X (aa ++ Xy fp s.heap) σ H s:=
 I.pins_of fun p hp=>(mem_append.mp hp).elim (fun z=>I.pin p (mem_append_right _ z)) fun z=>by
  obtain⟨hb,e⟩:=Akx z;obtain⟨f0,f1,f2,_⟩:=hf p.1 hb;obtain⟨o,e',d⟩:=ho p.1 hb;rw[e] at e';cases e';exact⟨e,f0,f1,f2,d⟩
theorem Inv.unpinned {aa pl:List (Addr×Obj)} {σ:St} {H:Hp} {s:Shared} (I:Inv X (aa ++ pl) σ H s):Inv X aa σ H s:=I.pins_of fun p hp=>I.pin p (mem_append_right _ (List.mem_append_left _ hp))
theorem Ayt {iter:Expr} {body:List Stmt} {wi:TI} {g:TG} {tb:TS} {pos:Pos} (hp:PassesOwn (model X.prog X.w) X.A X.env X.xe) (hc:X.calm=true) (hi:PI X tg iter wi) (hg:PG X tg g) (hb:PSs X body tb)
  (hs:∀x,foldedSetIterable iter X.env x=pure x:=by intro _;rfl):PS X (.For tg iter body [] pos) (Bfu wi g tb):=by
 intro aa s σ H D I h;refine wpAny_For (thn (hi aa s σ H _ I h) fun v s1 h1=>thn h1 fun itv s2 h2=>?_) hs;obtain⟨it,fp,tn,J,H2,e,I2,T,st2,f2,W,⟨m0,w0⟩,turn⟩:=h2;subst e;have stat:∀{H':Hp},(∀b∈fp,H' b=none)->∀b∈fp,Xx X aa H' b:=fun hn b hb=>⟨hn b hb,(f2 b hb).2⟩;refine codeAny_forLoop_any (fun n s'=>∃i σ' H',Inv X aa σ' H' s'/\tn i s'.heap/\(∀b∈fp,H' b=none)/\W i n σ' H') ?_ m0 ⟨0,σ,H2,I2,st2,fun b hb=>(f2 b hb).1,w0⟩;rintro n s3 ⟨i,σ3,H3,I3,st3,fr3,w3⟩;rcases turn i n σ3 H3 w3 with ⟨stop,qn⟩|⟨go,N,hN,step⟩
 .refine wpAny_passesOwn hp (thn (T.done X rfl rfl rfl hc i aa s3 σ3 H3 X.xe I3 (stat fr3) st3 stop) fun r s4 ⟨hr,I4⟩=>?_);subst hr;exact wpAny_execs_nil ⟨σ3,H3,I4,qn⟩
 .refine wpAny_passesOwn hp (thn (T.item X rfl rfl rfl hc i aa s3 σ3 H3 X.xe I3 (stat fr3) st3 go) fun r s4 ⟨u,hr,h4⟩=>?_);subst hr;refine wpAny_passesOwn hp (thn h4 fun _ s5 ⟨x,H5,I5,r5,y5,st5,fr5⟩=>?_);have I5':=I5.pinned (stat fr5) (T.obj _ _ st5);refine wpAny_passesOwn hp (thn (hg _ s5 σ3 H5 x u _ I5' r5 (step x H5 y5)) fun _ s6 ⟨σ6,H6,I6,q6⟩=>?_);refine wpAny_passesOwn hp (thn (hb _ s6 σ6 H6 _ I6 q6) fun f s7 q7=>?_);have again:∀{σ7:St} {H7:Hp},Inv X (aa ++ Xy fp s5.heap) σ7 H7 s7->N σ7 H7->∃m,m < n/\∃i σ' H',Inv X aa σ' H' s7/\tn i s7.heap/\(∀b∈fp,H' b=none)/\W i m σ' H':=fun {σ7 H7} I7 n7=>by
   obtain⟨m',hm,w7⟩:=hN σ7 H7 n7;refine⟨m',hm,i+1,σ7,H7,I7.unpinned,T.keep _ _ _ st5 fun b hb o e=>(I7.pin (b,o) (mem_append_right _ (mem_append_right _ (Kg hb e)))).1,fun b hb=>?_,w7⟩;obtain⟨o,e,d⟩:=T.obj _ _ st5 b hb;exact(I7.pin (b,o) (mem_append_right _ (mem_append_right _ (Kg hb e)))).2.1
  cases f with
  |next=>obtain⟨σ7,H7,I7,n7⟩:=q7;exact again I7 n7
  |cont=>obtain⟨σ7,H7,I7,n7⟩:=q7;exact again I7 n7
  |brk=>obtain⟨σ7,H7,I7,q7⟩:=q7;exact⟨σ7,H7,I7.unpinned,q7⟩
  |ret v=>obtain⟨x7,σ7,H7,I7,r7,q7⟩:=q7;exact⟨x7,σ7,H7,I7.unpinned,r7,q7⟩
end
abbrev R2:=V->V->Hp->VK->Prop
def OpR (X:Cx) (f:Value->Value->Sem Value) (r:R2):Prop:=
 ∀(aa:List (Addr×Obj)) (s:Shared) (σ:St) (H:Hp) (x y:V) (v u:Value) (Q:VK),Inv X aa σ H s->RelV x v->RelV y u->r x y H Q->
  wpAny (model X.prog X.w) X.A (f v u) (EP X aa σ Q) X.xe s
def UnR (X:Cx) (f:Value->Sem Value) (r:V->Hp->VK->Prop):Prop:=
 ∀(aa:List (Addr×Obj)) (s:Shared) (σ:St) (H:Hp) (x:V) (v:Value) (Q:VK),Inv X aa σ H s->RelV x v->r x H Q->
  wpAny (model X.prog X.w) X.A (f v) (EP X aa σ Q) X.xe s
def Hh (X:Cx) (f:Value) (r:List V->Hp->VK->Prop):Prop:=
 ∀(aa:List (Addr×Obj)) (s:Shared) (σ:St) (H:Hp) (xs:List V) (us:List Value) (Q:VK),Inv X aa σ H s->Vals xs us->r xs H Q->
  wpAny (model X.prog X.w) X.A (call f us) (EP X aa σ Q) X.xe s
def Bfv (X:Cx) (r:V->Hp->(Bool->Hp->Prop)->Prop):Prop:=
 ∀(aa:List (Addr×Obj)) (s:Shared) (σ:St) (H:Hp) (x:V) (v:Value) (Q:Bool->Hp->Prop),Inv X aa σ H s->RelV x v->r x H Q->
  wpAny (model X.prog X.w) X.A (truthy v) (TP X aa σ Q) X.xe s
def tOp (r:R2) (ta tb:TE):TE:=fun σ H Q=>ta σ H fun x H1=>tb σ H1 fun y H2=>r x y H2 Q
def tUn (r:V->Hp->VK->Prop) (ta:TE):TE:=fun σ H Q=>ta σ H fun x H1=>r x H1 Q
def rI (C:Int->Int->Prop) (g:Int->Int->V):R2:=fun x y H Q=>∃i j,x=.int i/\y=.int j/\C i j/\Q (g i j) H
def rI0 (g:Int->Int->V):R2:=fun x y H Q=>∃i j,x=.int i/\y=.int j/\Q (g i j) H
def rU (g:Int->V):V->Hp->VK->Prop:=fun x H Q=>∃i,x=.int i/\Q (g i) H
section
theorem Ayu (ha:PE X a ta) (hb:PE X b tb) {aa:List (Addr×Obj)} {s:Shared} {σ:St} {H:Hp} {R:V->V->Hp->Prop} (I:Inv X aa σ H s)
  (h:ta σ H fun x H1=>tb σ H1 fun y H2=>R x y H2) {Q:Value->Shared->Prop} {f:Value->Value->Sem Value}
  (hf:∀v u s2 x y H2,Inv X aa σ H2 s2->RelV x v->RelV y u->R x y H2->wpAny (model X.prog X.w) X.A (f v u) Q X.xe s2) :
  wpAny (model X.prog X.w) X.A (eval a X.env) (fun v s₁=>wpAny (model X.prog X.w) X.A (eval b X.env) (fun u s₂=>wpAny (model X.prog X.w) X.A (f v u) Q X.xe s₂) X.xe s₁) X.xe s:=by
 refine thn (ha aa s σ H _ I h) fun v s1 ⟨x,H1,I1,r1,q1⟩=>?_;refine thn (hb aa s1 σ H1 _ I1 q1) fun u s2 ⟨y,H2,I2,r2,q2⟩=>?_;exact hf v u s2 x y H2 I2 r1 r2 q2
theorem Bc2 {op:Operator} {r:R2} (ho:OpR X (binaryOp op) r) (ha:PE X a ta) (hb:PE X b tb):PE X (.BinOp a op b pos) (tOp r ta tb):=by
 intro aa s σ H Q I h;exact wpAny_BinOp (Ayu ha hb I h fun v u s2 x y H2 I2 rx ry q=>ho aa s2 σ H2 x y v u Q I2 rx ry q)
theorem Bc3 {op:UnaryOp} {r:V->Hp->VK->Prop} (ho:UnR X (unaryOp op) r) (ha:PE X a ta):PE X (.UnaryOp op a pos) (tUn r ta):=by
 intro aa s σ H Q I h;exact UnaryOp_ (thn (ha aa s σ H _ I h) fun v s1 ⟨x,H1,I1,r1,q1⟩=>ho aa s1 σ H1 x v Q I1 r1 q1)
theorem opI {f:Value->Value->Sem Value} {C:Int->Int->Prop} {g:Int->Int->Int}
  (rule:∀(i j:Int) (t u:Tok) (s:Shared) (Q:Value->Shared->Prop) (E:Value->Shared->Prop),C i j->Q (.int (g i j) s.toks) { s with toks:=s.toks+1 }->wpAny (model X.prog X.w) X.A (f (.int i t) (.int j u)) Q E s) :
  OpR X f (rI C fun i j=>.int (g i j)):=by
 intro aa s σ H x y v u Q I rx ry h;obtain⟨i,j,rfl,rfl,hc,q⟩:=h;obtain⟨t,rfl⟩:=rx;obtain⟨t',rfl⟩:=ry;exact rule i j t t' s _ _ hc ⟨.int (g i j),H,I.tok _,⟨_,rfl⟩,q⟩
theorem Ayv {f:Value->Value->Sem Value} {g:Int->Int->Int}
  (rule:∀(i j:Int) (t u:Tok) (s:Shared) (Q:Value->Shared->Prop) (E:Value->Shared->Prop),Q (.int (g i j) s.toks) { s with toks:=s.toks+1 }->wpAny (model X.prog X.w) X.A (f (.int i t) (.int j u)) Q E s) :
  OpR X f (rI0 fun i j=>.int (g i j)):=by
 intro aa s σ H x y v u Q I rx ry h;obtain⟨i,j,rfl,rfl,q⟩:=h;obtain⟨t,rfl⟩:=rx;obtain⟨t',rfl⟩:=ry;exact rule i j t t' s _ _ ⟨.int (g i j),H,I.tok _,⟨_,rfl⟩,q⟩
theorem Ayw {f:Value->Value->Sem Value} {g:Int->Int->Bool}
  (rule:∀(i j:Int) (t u:Tok) (s:Shared) (Q:Value->Shared->Prop) (E:Value->Shared->Prop),Q (.bool (g i j)) s->wpAny (model X.prog X.w) X.A (f (.int i t) (.int j u)) Q E s) :
  OpR X f (rI0 fun i j=>.bl (g i j)):=by
 intro aa s σ H x y v u Q I rx ry h;obtain⟨i,j,rfl,rfl,q⟩:=h;obtain⟨t,rfl⟩:=rx;obtain⟨t',rfl⟩:=ry;exact rule i j t t' s _ _ ⟨.bl (g i j),H,I,rfl,q⟩
def Bc4 (i j:Int):Prop:=0 < j/\j < 1073741824
def Bc5 (i j:Int):Prop:=0<=j/\j<=1000000/\i.natAbs < 2 ^ 64
def Asy (i j:Int):Prop:=(-(2 ^ 64) < i/\i < 2 ^ 64)\/(-(2 ^ 64) < j/\j < 2 ^ 64)
theorem Asy.ok {i j:Int} (h:Asy i j):IntMulOk i j:=by
 rcases h with ⟨h1,h2⟩|⟨h1,h2⟩
 .exact .of_left (intBits_le_64 h1 h2)
 .exact .of_right (intBits_le_64 h1 h2)
theorem Agq (k:Nat):(0:Int)<=2 ^ k:=by
 rw[two_pow_cast];exact Int.natCast_nonneg _
theorem Ayx:OpR X (binaryOp .Add) (rI0 fun i j=>.int (i+j)):=Ayv fun _ _ _ _ _ _ _ q=>add_int q
theorem Ayy:OpR X (binaryOp .Sub) (rI0 fun i j=>.int (i - j)):=Ayv fun _ _ _ _ _ _ _ q=>sub_int q
theorem Ayz:OpR X (binaryOp .Mult) (rI Asy fun i j=>.int (i * j)):=opI fun _ _ _ _ _ _ _ hc q=>mul_int q hc.ok
theorem Asz:OpR X (binaryOp .FloorDiv) (rI Bc4 fun i j=>.int (i / j)):=opI fun i j _ _ _ _ _ hc q=>by
 have h1:(0:Int) < j:=hc.1;have h2:j < 1073741824:=hc.2;exact floordiv_int (by omega) (by rw[Int.fdiv_eq_ediv_of_nonneg i (by omega)];exact q) (.inl (PyProof.noPylong_small (by omega)))
theorem Ay0:OpR X (binaryOp .Mod) (rI (fun _ j=>0 < j) fun i j=>.int (i % j)):=opI fun i j _ _ _ _ _ hc q=>by
 have h1:(0:Int) < j:=hc;exact mod_int' (by omega) (by rw[Int.fmod_eq_emod_of_nonneg i (by omega)];exact q)
theorem Ay1:OpR X (binaryOp .LShift) (rI Bc5 fun i j=>.int (i * 2 ^ j.toNat)):=opI fun _ _ _ _ _ _ _ hc q=>lshift_int_small hc.1 hc.2.1 hc.2.2 q
theorem Ay2:OpR X (binaryOp .RShift) (rI (fun _ j=>0<=j) fun i j=>.int (i / 2 ^ j.toNat)):=opI fun i j _ _ _ _ _ hc q=>
 rshift_int hc (by rw[Int.fdiv_eq_ediv_of_nonneg i (Agq _)];exact q)
theorem Ay3:OpR X (binaryOp .BitAnd) (rI0 fun i j=>.int (Builtin.bitAnd i j)):=Ayv fun _ _ _ _ _ _ _ q=>and_int q
theorem unI {f:Value->Sem Value} {g:Int->Int}
  (rule:∀(i:Int) (t:Tok) (s:Shared) (Q:Value->Shared->Prop) (E:Value->Shared->Prop),Q (.int (g i) s.toks) { s with toks:=s.toks+1 }->wpAny (model X.prog X.w) X.A (f (.int i t)) Q E s) :
  UnR X f (rU fun i=>.int (g i)):=by
 intro aa s σ H x v Q I rx h;obtain⟨i,rfl,q⟩:=h;obtain⟨t,rfl⟩:=rx;exact rule i t s _ _ ⟨.int (g i),H,I.tok _,⟨_,rfl⟩,q⟩
theorem Ay4:UnR X (unaryOp .USub) (rU fun i=>.int (-i)):=unI fun _ _ _ _ _ q=>neg_int q
end
section
theorem Sq {aa:List (Addr×Obj)} {σ:St} {H:Hp} {s:Shared} {Q:VK} {k k':Bool} (I:Inv X aa σ H s) (q:Q (.bl k) H) (e:k=k'):EP X aa σ Q (.bool k') s:=by
 subst e;exact⟨.bl k,H,I,rfl,q⟩
theorem Bc6:OpR X (compareOp .Lt) (rI0 fun i j=>.bl (decide (i < j))):=Ayw fun _ _ _ _ _ _ _ q=>lt_int q
theorem Bc7:OpR X (compareOp .LtE) (rI0 fun i j=>.bl (decide (i<=j))):=Ayw fun _ _ _ _ _ _ _ q=>le_int q
theorem Bc8:OpR X (compareOp .Gt) (rI0 fun i j=>.bl (decide (j < i))):=Ayw fun _ _ _ _ _ _ _ q=>gt_int q
theorem Aky:OpR X (compareOp .Lt) (fun x y H Q=>∃i j,x=.str i/\y=.str j/\Q (.bl (decide (i.cps.toList < j.cps.toList))) H):=by
 intro aa s σ H x y v u Q I rx ry h;obtain⟨i,j,rfl,rfl,q⟩:=h;obtain⟨t,rfl⟩:=rx;obtain⟨t',rfl⟩:=ry;exact lt_str (Sq I q rfl)
theorem Akz:OpR X (compareOp .In) (fun x y H Q=>∃i j,x=.str i/\y=.str j/\Q (.bl (!(Builtin.Str.occurrences j i 0 j.length 1).isEmpty)) H):=by
 intro aa s σ H x y v u Q I rx ry h;obtain⟨i,j,rfl,rfl,q⟩:=h;obtain⟨t,rfl⟩:=rx;obtain⟨t',rfl⟩:=ry;exact in_str (Sq I q rfl)
theorem Ay5:OpR X (compareOp .Is) (fun x y H Q=>y=.non/\Q (.bl (decide (x=.non))) H):=by
 intro aa s σ H x y v u Q I rx ry h;obtain⟨rfl,q⟩:=h;cases ry;refine is_none_gen (Sq I q ?_);cases x <;> first
  |(cases rx;rfl)
  |(obtain⟨t,rfl⟩:=rx;rfl)
theorem OpR.or {f:Value->Value->Sem Value} {r r':R2} (h:OpR X f r) (h':OpR X f r'):OpR X f (fun x y H Q=>r x y H Q\/r' x y H Q):=by
 intro aa s σ H x y v u Q I rx ry q;rcases q with q|q
 .exact h aa s σ H x y v u Q I rx ry q
 .exact h' aa s σ H x y v u Q I rx ry q
theorem Bfw (b:Expr) {op:CmpOp} (h:op≠.In:=by decide) (h2:op≠.NotIn:=by decide):behindInMarks op b=false:=by
 have e1:(op==CmpOp.In)=false:=by cases op <;> first|rfl|exact absurd rfl h
 have e2:(op==CmpOp.NotIn)=false:=by cases op <;> first|rfl|exact absurd rfl h2
 cases b <;> simp[behindInMarks,e1,e2]
theorem As0 {op:CmpOp} {r:R2} (ho:OpR X (compareOp op) r) (ha:PE X a ta) (hb:PE X b tb) (hm:behindInMarks op b=false):PE X (.Compare a [op] [b] pos) (tOp r ta tb):=by
 intro aa s σ H Q I h;exact wpAny_Compare1 (Ayu ha hb I h fun v u s2 x y H2 I2 rx ry q=>ho aa s2 σ H2 x y v u Q I2 rx ry q) hm
def Aix (t:TE):TT:=fun σ H Q=>t σ H fun x H'=>∃k,x=.bl k/\Q k H'
theorem As1 {op:CmpOp} {r:R2} (ho:OpR X (compareOp op) r) (ha:PE X a ta) (hb:PE X b tb) (hm:behindInMarks op b=false):PT X (.Compare a [op] [b] pos) (Aix (tOp r ta tb)):=by
 intro aa s σ H Q I h;refine wpAny_isTrue_Compare1 (thn (ha aa s σ H _ I h) fun v s1 ⟨x,H1,I1,r1,q1⟩=>thn (hb aa s1 σ H1 _ I1 q1) fun u s2 ⟨y,H2,I2,r2,q2⟩=>
  thn (ho aa s2 σ H2 x y v u _ I2 r1 r2 q2) fun c s3 ⟨z,H3,I3,r3,k,e,q3⟩=>?_) hm
 subst e;cases r3;exact wpAny_truthy_bool ⟨H3,I3,q3⟩
def Xz (r r':R2) (ta tb tc:TE):TE:=fun σ H Q=>ta σ H fun x H1=>tb σ H1 fun y H2=>r x y H2 fun z H3=>∃k,z=.bl k/\
 (if k=true then tc σ H3 fun w' H4=>r' y w' H4 Q else Q (.bl false) H3)
theorem Anu {op op':CmpOp} {r r':R2} (ho:OpR X (compareOp op) r) (ho':OpR X (compareOp op') r') (ha:PE X a ta) (hb:PE X b tb) (hc:PE X c tc)
  (hm:lastMarks [op,op'] [b,c]=false:=by with_unfolding_all rfl):PE X (.Compare a [op,op'] [b,c] pos) (Xz r r' ta tb tc):=by
 intro aa s σ H Q I h;refine Compare_chain (thn (ha aa s σ H _ I h) fun v s1 ⟨x,H1,I1,r1,q1⟩=>chain_link (thn (hb aa s1 σ H1 _ I1 q1) fun u s2 ⟨y,H2,I2,r2,q2⟩=>
  thn (ho aa s2 σ H2 x y v u _ I2 r1 r2 q2) fun d s3 ⟨z,H3,I3,r3,k,e,q3⟩=>?_)) hm
 subst e;cases r3;refine wpAny_truthy_bool ?_;cases k with
 |false=>exact ite_ff ⟨.bl false,H3,I3,rfl,q3⟩
 |true=>exact ite_tt (chain_last (thn (hc aa s3 σ H3 _ I3 q3) fun w' s4 ⟨z',H4,I4,r4,q4⟩=>ho' aa s4 σ H4 y z' u w' Q I4 r2 r4 q4))
theorem Anv {op op':CmpOp} {r r':R2} (ho:OpR X (compareOp op) r) (ho':OpR X (compareOp op') r') (ha:PE X a ta) (hb:PE X b tb) (hc:PE X c tc)
  (hm:lastMarks [op,op'] [b,c]=false:=by with_unfolding_all rfl):PT X (.Compare a [op,op'] [b,c] pos) (Aix (Xz r r' ta tb tc)):=by
 intro aa s σ H Q I h;refine isTrue_chain (thn (ha aa s σ H _ I h) fun v s1 ⟨x,H1,I1,r1,q1⟩=>test_link (thn (hb aa s1 σ H1 _ I1 q1) fun u s2 ⟨y,H2,I2,r2,q2⟩=>
  thn (ho aa s2 σ H2 x y v u _ I2 r1 r2 q2) fun d s3 ⟨z,H3,I3,r3,k,e,q3⟩=>?_)) hm
 subst e;cases r3;refine wpAny_truthy_bool ?_;cases k with
 |false=>
  obtain⟨k',e',q'⟩:=q3;cases e';exact ite_ff ⟨H3,I3,q'⟩
 |true=>
  refine ite_tt (test_last (thn (hc aa s3 σ H3 _ I3 q3) fun w' s4 ⟨z',H4,I4,r4,q4⟩=>thn (ho' aa s4 σ H4 y z' u w' _ I4 r2 r4 q4) fun d' s5 ⟨z2,H5,I5,r5,k2,e2,q5⟩=>?_));subst e2;cases r5;exact wpAny_truthy_bool ⟨H5,I5,q5⟩
def Bfx (K:PySem.W.Frag) (x:V) (H:Hp) (k:Bool):Prop:=
 match x with
 |.non=>k=false
 |.bl b=>k=b
 |.int i=>k=(i != 0)
 |.str y=>y.length<=sizeLine/\k=((y.length:Int) != 0)
 |.byt y=>y.size<=sizeLine/\k=((y.size:Int) != 0)
 |.ref p=>(∃xs,SqL K H p xs/\k=!xs.isEmpty)\/(∃xs,SqT K H p xs/\k=!xs.isEmpty)\/∃kvs,H p=some (.dK kvs)/\k=!kvs.isEmpty
 |_=>False
theorem Agr {κ:Type} {kvs:List (κ×V)} {vs:List (κ×Value)} (r:KV kvs vs):(!vs.isEmpty)=!kvs.isEmpty:=by
 cases r <;> rfl
theorem X3 {xs:List V} {its:List Value} (r:Vals xs its):(!its.toArray.isEmpty)=!xs.isEmpty:=by
 cases r <;> simp
theorem Vb:(sizeLine:Nat) < 2 ^ 63:=by rw[sizeLine_eq];decide
theorem Bfy:Bfv X (fun x H Q=>∃k,Bfx X.K x H k/\Q k H):=by
 intro aa s σ H x v Q I rx h;obtain⟨k,e,q⟩:=h;have hl:=Vb;have hs:sizeLine=16777216:=sizeLine_eq;cases x with
 |non=>
  cases rx;have e':k=false:=e;subst e';exact truthy_none ⟨H,I,q⟩
 |bl b=>
  cases rx;have e':k=b:=e;subst e';exact wpAny_truthy_bool ⟨H,I,q⟩
 |int i=>
  obtain⟨t,rfl⟩:=rx;have e':k=(i != 0):=e;subst e';exact PySem.P.truthy_int ⟨H,I,q⟩
 |str y=>
  obtain⟨t,rfl⟩:=rx;obtain⟨hy,e'⟩:y.length<=sizeLine/\k=((y.length:Int) != 0):=e;subst e';exact PySem.P.truthy_str (by omega) ⟨H,I.tok _,q⟩
 |byt y=>
  obtain⟨t,rfl⟩:=rx;obtain⟨hy,e'⟩:y.size<=sizeLine/\k=((y.size:Int) != 0):=e;subst e';exact PySem.W.truthy_bytes (by omega) ⟨H,I.tok _,q⟩
 |ref p=>
  cases rx;have e':(∃xs,SqL X.K H p xs/\k=!xs.isEmpty)\/(∃xs,SqT X.K H p xs/\k=!xs.isEmpty)\/∃kvs,H p=some (.dK kvs)/\k=!kvs.isEmpty:=e;rcases e' with ⟨xs,hx,e'⟩|⟨xs,hx,e'⟩|⟨kvs,hx,e'⟩
  .subst e';obtain⟨its,r,pl,hz⟩:=I.list hx;have hlen:=r.length;exact wpAny_truthy_list pl.isList (by simp only[size_toArray];omega) ⟨H,I.tok _,by rw[X3 r];exact q⟩
  .subst e';obtain⟨its,r,pl,hz⟩:=I.tuple hx;have hlen:=r.length;exact truthy_tuple pl (by simp only[size_toArray];omega) ⟨H,I.tok _,by rw[X3 r];exact q⟩
  .subst e';obtain⟨hz,hS,vs,r,m⟩:kvs.length<=sizeLine/\(p==sysModules)=false/\∃vs,KV kvs vs/\s.heap.DictOf (Er X.prog X.w) p vs:=I.hok p _ hx;have hlen:kvs.length=vs.length:=Paired.length r;exact wpAny_truthy_dict hS m (by omega) ⟨H,I.tok _,by rw[Agr r];exact q⟩
 |_=>exact(show False from e).elim
theorem Ags:OpR X (binaryOp .Add) (fun x y H Q=>∃i j,x=.str i/\y=.str j/\i.length+j.length<=sizeLine/\Q (.str (i ++ j)) H):=by
 intro aa s σ H x y v u Q I rx ry h;obtain⟨i,j,rfl,rfl,hz,q⟩:=h;obtain⟨t,rfl⟩:=rx;obtain⟨t',rfl⟩:=ry;exact add_str (fun t' tk=>⟨.str (i ++ j),H,I.tok _,⟨_,rfl⟩,q⟩) hz
theorem vals1 {x:V} {us:List Value} (r:Vals [x] us):∃u,us=[u]/\RelV x u:=by
 cases r with
 |cons r1 r2=>cases r2;exact⟨_,rfl,r1⟩
theorem vals2 {x y:V} {us:List Value} (r:Vals [x,y] us):∃u w',us=[u,w']/\RelV x u/\RelV y w':=by
 cases r with
 |cons r1 r2=>
  cases r2 with
  |cons r3 r4=>cases r4;exact⟨_,_,rfl,r1,r3⟩
theorem Ak0 (hc:X.calm=true):Hh X (.builtin "max") (fun xs H Q=>∃i j,xs=[.int i,.int j]/\Q (.int (if j > i then j else i)) H):=by
 intro aa s σ H xs us Q I r h;obtain⟨i,j,rfl,q⟩:=h;obtain⟨u,w',rfl,⟨t,rfl⟩,⟨t',rfl⟩⟩:=vals2 r;refine max_two_ints (I.ok.hd hc) fun h' tk k=>⟨_,H,I.kept k,?_,q⟩;by_cases hj:j > i
 .rw[if_pos hj,if_pos hj];exact⟨_,rfl⟩
 .rw[if_neg hj,if_neg hj];exact⟨_,rfl⟩
theorem Ak1 (hc:X.calm=true):Hh X (.builtin "min") (fun xs H Q=>∃i j,xs=[.int i,.int j]/\Q (.int (if j < i then j else i)) H):=by
 intro aa s σ H xs us Q I r h;obtain⟨i,j,rfl,q⟩:=h;obtain⟨u,w',rfl,⟨t,rfl⟩,⟨t',rfl⟩⟩:=vals2 r;refine min_two_ints (I.ok.hd hc) fun h' tk k=>⟨_,H,I.kept k,?_,q⟩;by_cases hj:j < i
 .rw[if_pos hj,if_pos hj];exact⟨_,rfl⟩
 .rw[if_neg hj,if_neg hj];exact⟨_,rfl⟩
theorem Anw:Hh X (.builtin "ord") (fun xs H Q=>∃x,xs=[.str x]/\x.length=1/\Q (.int (x.cps.getD 0 0:Nat)) H):=by
 intro aa s σ H xs us Q I r h;obtain⟨x,rfl,hz,q⟩:=h;obtain⟨u,rfl,t,rfl⟩:=vals1 r;exact ord_of_one hz ⟨.int _,H,I.tok _,⟨_,rfl⟩,q⟩
def Bc9 (K:PySem.W.Frag) (x:V) (H:Hp) (n:Nat):Prop:=
 match x with
 |.str y=>y.length<=sizeLine/\n=y.length
 |.byt y=>y.size<=sizeLine/\n=y.size
 |.ref p=>(∃xs,SqL K H p xs/\n=xs.length)\/∃xs,SqT K H p xs/\n=xs.length
 |_=>False
theorem Anx:Hh X (.builtin "len") (fun xs H Q=>∃x n,xs=[x]/\Bc9 X.K x H n/\Q (.int n) H):=by
 intro aa s σ H xs us Q I r h;obtain⟨x,n,rfl,e,q⟩:=h;obtain⟨u,rfl,rx⟩:=vals1 r;have hl:=Vb;have hs:sizeLine=16777216:=sizeLine_eq;cases x with
 |str y=>
  obtain⟨t,rfl⟩:=rx;obtain⟨hy,e'⟩:y.length<=sizeLine/\n=y.length:=e;subst e';exact len_str (by omega) ⟨.int _,H,I.tok _,⟨_,rfl⟩,q⟩
 |byt y=>
  obtain⟨t,rfl⟩:=rx;obtain⟨hy,e'⟩:y.size<=sizeLine/\n=y.size:=e;subst e';exact PySem.W.len_bytes (by omega) ⟨.int _,H,I.tok _,⟨_,rfl⟩,q⟩
 |ref p=>
  cases rx;have e':(∃xs,SqL X.K H p xs/\n=xs.length)\/∃xs,SqT X.K H p xs/\n=xs.length:=e;rcases e' with ⟨xs,hx,e'⟩|⟨xs,hx,e'⟩
  .subst e';obtain⟨its,r',pl,hz⟩:=I.list hx;have hlen:=r'.length;exact Calls.call_len_list pl.isList (by simp only[size_toArray];omega) ⟨.int xs.length,H,I.tok _,⟨_,by simp only[size_toArray];rw[hlen]⟩,q⟩
  .subst e';obtain⟨its,r',pl,hz⟩:=I.tuple hx;have hlen:=r'.length;exact len_tuple pl (by simp only[size_toArray];omega) ⟨.int xs.length,H,I.tok _,⟨_,by simp only[size_toArray];rw[hlen]⟩,q⟩
 |_=>exact(show False from e).elim
end
structure Agt (h:Heap) (x dx C:Addr) (mA:Str->Option Value):Prop where
 obj:h.get? x=some (instObj C dx)
 ns:h.Ns1 dx mA
 ne:dx≠x
theorem Aaq {h:Heap} {dx:Addr} {mA:Str->Option Value} (n:h.Ns1 dx mA):∃od,h.get? dx=some od/\∀name,lookIn name od=some (mA name):=by
 obtain⟨o,es,ep,ho,hd,hk,_,hm⟩:=n;refine⟨o,ho,fun name=>?_⟩;have e:=hm name;unfold nsFind findBy at e;rw[<-Array.find?_toList] at e;unfold lookIn;rw[hd];dsimp only;split
 .rename_i y q;rw[q] at e;exact congrArg some e
 .rename_i q;rw[q] at e;have a:es.toList.any (·.refKey)=false:=by
   rw[List.any_eq_false];intro y hy;obtain⟨z,t,hkey⟩:=hk y (Array.mem_toList_iff.mp hy);simp[DictEntry.refKey,hkey]
  have a':¬ es.toList.any (·.refKey)=true:=by rw[a];exact Bool.false_ne_true
  rw[if_neg a'];exact congrArg some e
theorem Agt.look {h:Heap} {x dx C:Addr} {mA:Str->Option Value} (I:Agt h x dx C mA):∃od,PySem.W.InstAt h x (instObj C dx) C (some od)/\∀name,lookIn name od=some (mA name):=
 let ⟨od,ho,hl⟩:=Aaq I.ns
 ⟨od,⟨I.obj,rfl,rfl,ho⟩,hl⟩
section
theorem As2 {prog:Program} {w:World} {A:Around} {E:Value->Shared->Prop} {s:Shared} {K:PySem.W.Frag} {x dx C:Addr} {mA:Str->Option Value} {name:Str} {v:Value} {expr:Bool} {Q:Value->Shared->Prop} (X:K.In s.heap) (I:Agt s.heap x dx C mA) (hg:plainGet K C name=true) (hh:hasDictIn K C=true)
  (ha:PySem.W.findIn K (.ref C) name=some none) (hv:mA name=some v) (hv':PySem.W.handedIn v=true) (h:Q v { s with toks:=s.toks+1 }) :
  wpAny (model prog w) A (getAttr (.ref x) name expr) Q E s:=by
 obtain⟨od,J,hl⟩:=I.look;exact PySem.W.get_value X J (plainGet_of hg).1 (findObj_own hh ha rfl (by rw[hl,hv])) hv' h
theorem Any {prog:Program} {w:World} {A:Around} {E:Value->Shared->Prop} {s:Shared} {K:PySem.W.Frag} {x dx C f:Addr} {mA:Str->Option Value} {name:Str} {pl:Sem Bool} {Q:Value×List Value->Shared->Prop} (X:K.In s.heap) (I:Agt s.heap x dx C mA) (hg:plainGet K C name=true)
  (hf:PySem.W.findIn K (.ref C) name=some (some (.ref f))) (ht:isFn K (.ref f)=true) (hv:mA name=none) (h:Q (.ref f,[.ref x]) s) :
  wpAny (model prog w) A (getMethod (.ref x) name pl) Q E s:=by
 obtain⟨od,J,hl⟩:=I.look;exact PySem.W.method_fn X J (plainGet_of hg).1 (plainGet_of hg).2 hf (beq_iff_eq.mp ht) (by show (lookIn name od).map (·.isSome)=some false;rw[hl,hv];rfl) h
theorem As3 {prog:Program} {w:World} {A:Around} {E:Value->Shared->Prop} {s:Shared} {K:PySem.W.Frag} {x dx C:Addr} {mA:Str->Option Value} {name:Str} {v:Value} {ns:List Str} {Q:Unit->Shared->Prop} (X:K.In s.heap) (I:Agt s.heap x dx C mA)
  (hs:PySem.W.findIn K (.ref C) "__setattr__"=some (some (.builtin "object.__setattr__"))) (hp:plainOver K C=true) (ht:takerIn K C name=some none) (hh:hasDictIn K C=true)
  (hw:PySem.Within mA ns) (hsz:ns.length<=sizeLine)
  (h:∀h',Agt h' x dx C (fun y=>if y=name then some v else mA y)->SameBut dx s.heap h'->Q () { s with heap:=h',toks:=s.toks+2 }) :
  wpAny (model prog w) A (setAttr (.ref x) name v) Q E s:=by
 obtain⟨od,J,hl⟩:=I.look;refine PySem.W.set_plain X J hs (PySem.W.osa_open (s:={ s with toks:=s.toks+1 }) (r:=none) X J hp ht fun b=>?_)
 obtain⟨cd,hc,hd'⟩:=PySem.W.any_some hh;have hx:s.heap.get? x=some ⟨.ref C,some dx,.plain,#[]⟩:=I.obj;refine wpAny_bind (wpAny_pure (wpAny_bind (wpAny_bind (wpAny_loadPart hx (wpAny_bind (PySem.W.Looks.here (s:={ s with toks:=s.toks+1 }) (PySem.W.looks_clsIn X hc) ?_))))))
 rw[hd'];refine wpAny_pure (a:=some dx) (wpAny_bind (wpAny_pure (wpAny_bind ?_)));refine wpAny_nsSet1 (s:={ s with toks:=s.toks+1 }) I.ns fun h' hn2 hs2=>?_
 obtain⟨oD,esD,epD,hoD,hdD,hcD⟩:=hn2.count (PySem.Within.cons name v hw);refine wpAny_bind (wpAny_lookBehind hoD (by rw[hdD];exact pastItsLine_dict (le_trans hcD (by rw[length_cons];omega))) ?_)
 exact wpAny_pure (h _ ⟨(hs2.2 _ (Ne.symm I.ne)).trans I.obj,hn2,I.ne⟩ hs2)
theorem Anz {prog:Program} {w:World} {A:Around} {s:Shared} {K:PySem.W.Frag} {C f:Addr} {R:Result->Shared->Prop} {vs:List Value} {kw:List (Str×Value)} (X:K.In s.heap) (hm:makesIn K C=true)
  (hi:PySem.W.findIn K (.ref C) "__init__"=some (some (.ref f))) (hf:typeIn K (.ref f)=some (.type "function"))
  (h:codeAny (model prog w) (A.under (.builtin "type.__call__" ⟨.ref C::vs,kw⟩)) (.call (.ref f) ⟨.ref (s.heap.objs.size+1)::vs,kw⟩) (PySem.W.InitBack (s.heap.objs.size+1) R)
   { s with heap:=(s.heap.push emptyDict).push (instObj C s.heap.objs.size) }) :
  codeAny (model prog w) A (.call (.ref C) ⟨vs,kw⟩) R s:=by
 obtain⟨hh,g,d,t,os⟩:=s;exact PySem.W.make_core (PySem.W.makes_of X hm) (PySem.W.looks_findIn X hi) (fun self=>PySem.W.bind_fn X self hf) (.inl rfl) h
end
def Mq (f:Str) (v:V):List (Str×V)->List (Str×V)
 |[]=>[(f,v)]
 |(g,x)::r=>if g=f then (g,v)::r else (g,x)::Mq f v r
theorem We (f g:Str) (v:V):∀fs:List (Str×V),(Mq f v fs).lookup g=if g=f then some v else fs.lookup g
 |[]=>by
  show List.lookup g [(f,v)]=_;by_cases h:g=f
  .have hb:(g==f)=true:=beq_iff_eq.mpr h;simp only[List.lookup,hb,if_pos h]
  .have hb:(g==f)=false:=beq_eq_false_iff_ne.mpr h;simp only[List.lookup,hb,if_neg h]
 |(k,x)::r=>by
  have ih:=We f g v r;rw[show Mq f v ((k,x)::r)=(if k=f then (k,v)::r else (k,x)::Mq f v r) from rfl]
  by_cases hk:k=f
  .rw[if_pos hk];by_cases h:g=k
   .have hb:(g==k)=true:=beq_iff_eq.mpr h;simp only[List.lookup,hb,if_pos (h.trans hk)]
   .have hb:(g==k)=false:=beq_eq_false_iff_ne.mpr h;simp only[List.lookup,hb,if_neg (fun e:g=f=>h (e.trans hk.symm))]
  .rw[if_neg hk];by_cases h:g=k
   .have hb:(g==k)=true:=beq_iff_eq.mpr h;simp only[List.lookup,hb,if_neg (fun e:g=f=>hk (h.symm.trans e))]
   .have hb:(g==k)=false:=beq_eq_false_iff_ne.mpr h;simp only[List.lookup,hb];exact ih
theorem Vc (f:Str) (v:V):∀fs:List (Str×V),f∈(Mq f v fs).map (·.1)/\∀g,g∈fs.map (·.1)->g∈(Mq f v fs).map (·.1)
 |[]=>⟨by simp[Mq],fun g h=>by simp at h⟩
 |(k,x)::r=>by
  obtain⟨i1,i2⟩:=Vc f v r;rw[show Mq f v ((k,x)::r)=(if k=f then (k,v)::r else (k,x)::Mq f v r) from rfl]
  by_cases hk:k=f
  .rw[if_pos hk];subst hk;exact⟨by simp,fun g h=>by simpa using h⟩
  .rw[if_neg hk];refine⟨?_,fun g h=>?_⟩
   .rw[map_cons];exact mem_cons_of_mem _ i1
   .rw[map_cons] at h ⊢
    rcases mem_cons.mp h with e|e
    .exact mem_cons.mpr (.inl e)
    .exact mem_cons_of_mem _ (i2 g e)
theorem Wf (f:Str) (v:V):∀fs:List (Str×V),(Mq f v fs).length<=fs.length+1
 |[]=>by simp[Mq]
 |(k,x)::r=>by
  have ih:=Wf f v r;rw[show Mq f v ((k,x)::r)=(if k=f then (k,v)::r else (k,x)::Mq f v r) from rfl]
  by_cases hk:k=f
  .rw[if_pos hk,length_cons,length_cons];omega
  .rw[if_neg hk,length_cons,length_cons];omega
theorem Oz.some_of {v:V} {o:Option Value} (r:Oz (some v) o):∃u,o=some u/\RelV v u:=by
 cases o with
 |none=>exact(show False from r).elim
 |some u=>exact⟨u,rfl,r⟩
theorem Oz.none_of {o:Option Value} (r:Oz none o):o=none:=by
 cases o with
 |none=>rfl
 |some u=>exact(show False from r).elim
theorem Aar {v:V} {u:Value} (r:RelV v u):PySem.W.handedIn u=true:=by
 cases v with
 |non=>cases (show u=Value.none from r);rfl
 |bl b=>cases (show u=Value.bool b from r);rfl
 |int i=>obtain⟨t,e⟩:=(show ∃t,u=Value.int i t from r);cases e;rfl
 |str x=>obtain⟨t,e⟩:=(show ∃t,u=Value.str x t from r);cases e;rfl
 |byt b=>obtain⟨t,e⟩:=(show ∃t,u=Value.bytes b t from r);cases e;rfl
 |flt b=>obtain⟨t,e⟩:=(show ∃t,u=Value.float b t from r);cases e;rfl
 |ref a=>cases (show u=Value.ref a from r);rfl
 |ty n=>cases (show u=Value.type n from r);rfl
section
theorem Xf (hok:HOk P w H h) (e:H a=some (.ins C dx fs)):∃mA,Agt h a dx C mA/\(∀f,Oz (fs.lookup f) (mA f))/\PySem.Within mA (fs.map (·.1))/\fs.length<=1000/\H dx=some (.own a):=by
 obtain⟨d,z,ne,ob,mA,n,r,q⟩:=(show Dn P w H h a (.ins C dx fs) from hok a _ e);exact⟨mA,⟨ob,n,ne⟩,r,q,z,d⟩
end
structure Cls (K:PySem.W.Frag) (C:Addr):Prop where
 pg:plainGet K C Str.empty=true
 hd:hasDictIn K C=true
 po:plainOver K C=true
 sa:PySem.W.findIn K (.ref C) "__setattr__"=some (some (.builtin "object.__setattr__"))
theorem Cls.get {K:PySem.W.Frag} {C:Addr} (c:Cls K C) (f:Str):plainGet K C f=true:=c.pg
def Nf (K:PySem.W.Frag) (C:Addr) (f:Str):Prop:=PySem.W.findIn K (.ref C) f=some none
theorem Nf.taker {K:PySem.W.Frag} {C:Addr} {f:Str} (n:Nf K C f):takerIn K C f=some none:=by
 unfold takerIn;rw[show PySem.W.findIn K (.ref C) f=some none from n];rfl
structure Meth (K:PySem.W.Frag) (C:Addr) (m:Str) (f:Addr):Prop where
 at_:PySem.W.findIn K (.ref C) m=some (some (.ref f))
 fn:isFn K (.ref f)=true
 kp:keepIn K (.ref f)=true
section
theorem Agu {b:Bool} {Q:Value->Shared->Prop} (I:Inv X aa σ H s) (e:H a=some (.ins C dx fs)) (c:Cls X.K C) (n:Nf X.K C f) (l:fs.lookup f=some v)
  (h:∀u s',Inv X aa σ H s'->RelV v u->Q u s'):wpAny (model X.prog X.w) A (getAttr (.ref a) f b) Q E s:=by
 obtain⟨mA,O,r,_,_,_⟩:=Xf I.hok e;obtain⟨u,hu,ru⟩:=Oz.some_of (v:=v) (o:=mA f) (by rw[<-l];exact r f)
 exact As2 I.kIn O (c.get f) c.hd n hu (Aar ru) (h u _ (I.tok _) ru)
theorem X4 {m:Str} {g:Addr} {pl:Sem Bool} {Q:Value×List Value->Shared->Prop} (I:Inv X aa σ H s) (e:H a=some (.ins C dx fs)) (c:Cls X.K C) (k:Meth X.K C m g) (l:fs.lookup m=none)
  (h:Q (.ref g,[.ref a]) s):wpAny (model X.prog X.w) A (getMethod (.ref a) m pl) Q E s:=by
 obtain⟨mA,O,r,_,_,_⟩:=Xf I.hok e;have hn:mA m=none:=Oz.none_of (by rw[<-l];exact r m)
 exact Any I.kIn O (c.get m) k.at_ k.fn hn h
theorem Agv {y:V} {u:Value} {Q:Unit->Shared->Prop} (I:Inv X aa σ H s) (e:H a=some (.ins C dx fs)) (c:Cls X.K C) (n:Nf X.K C f) (hl:fs.length < 1000) (ry:RelV y u)
  (h:∀s',Inv X aa σ (upd H a (.ins C dx (Mq f y fs))) s'->Q () s'):wpAny (model X.prog X.w) A (setAttr (.ref a) f u) Q E s:=by
 obtain⟨mA,O,r,wi,_,ho⟩:=Xf I.hok e;have hz:(fs.map (·.1)).length<=sizeLine:=by rw[length_map,sizeLine_eq];omega
 refine As3 I.kIn O c.sa c.po n.taker c.hd wi hz fun h' O' sb=>h _ ?_;have hd:∃o,h'.get? dx=some o:=let ⟨o,_,_,e',_⟩:=O'.ns;⟨o,e'⟩;refine I.write (x:=a) (e:=dx) (by rw[e];exact True.intro) (.inr ho) (fun b q hb z=>(sb.2 b hb).trans z) hd ?_
 refine⟨by rw[Ax O.ne];exact ho,?_,O.ne,O'.obj,_,O'.ns,fun g=>?_,fun g hg=>?_⟩
 .have:=Wf f y fs;omega
 .show Oz ((Mq f y fs).lookup g) (if g=f then some u else mA g)
  rw[We];by_cases q:g=f
  .rw[if_pos q,if_pos q];exact ry
  .rw[if_neg q,if_neg q];exact r g
 .by_cases q:g=f
  .rw[q];exact(Vc f y fs).1
  .refine(Vc f y fs).2 g (wi g fun z=>hg ?_);show (if g=f then some u else mA g)=none
   rw[if_neg q];exact z
theorem Inv.made (I:Inv X aa σ H s):Inv X aa σ (upd (upd H s.heap.objs.size (.own (s.heap.objs.size+1))) (s.heap.objs.size+1) (.ins C s.heap.objs.size []))
  { s with heap:=(s.heap.push emptyDict).push (instObj C s.heap.objs.size) }:=by
 have e1:(s.heap.push emptyDict).get? s.heap.objs.size=some emptyDict:=get?_push_size s.heap rfl;have e2:((s.heap.push emptyDict).push (instObj C s.heap.objs.size)).get? (s.heap.objs.size+1)=some (instObj C s.heap.objs.size):=by
  have:=get?_push_size (s.heap.push emptyDict) (o:=instObj C s.heap.objs.size) rfl
  rwa [size_push] at this
 have e3:(s.heap.push emptyDict).Ns s.heap.objs.size (fun _=>none):=⟨emptyDict,#[],_,e1,rfl,(fun e he=>absurd he (by simp)),fun _=>rfl⟩
 have I1:=I.laid (a:=s.heap.objs.size) (o:=.own (s.heap.objs.size+1)) (h':=s.heap.push emptyDict) (t':=s.toks) (fun b u q=>get?_push_of_some _ q) (le_refl _) ⟨_,e1⟩;refine I1.laid (a:=s.heap.objs.size+1) (o:=.ins C s.heap.objs.size []) (t':=s.toks) (fun b u q=>get?_push_of_some _ q) (le_of_eq (size_push _ _)) ?_;have ne:s.heap.objs.size≠s.heap.objs.size+1:=ne_of_lt (lt_succ_self _);refine⟨by rw[Ax ne,Bm],zero_le _,ne,e2,fun _=>none,(Ns1.of_empty e3).at fun o q=>get?_push_of_some _ q,fun _=>True.intro,fun y hy=>absurd rfl hy⟩
theorem As4 {prog:Program} {w:World} {env:Env} {e:Expr} {f:Str} {pos:Pos} {s:Shared} {Q:Value->Shared->Prop} (hb:attributeBase e f env (eval e env)=eval e env)
  (h:wpAny (model prog w) A (eval e env) (fun o s₁=>wpAny (model prog w) A (getAttr o f true) Q E s₁) E s):wpAny (model prog w) A (eval (.Attribute e f pos) env) Q E s:=
 Attribute_any_ h (by rw[arm_eval_Attribute,hb])
end
def Bfz (K:PySem.W.Frag) (ta tv:TE) (f:Str):TS:=fun D σ H=>tv σ H fun y H1=>ta σ H1 fun x H2=>∃a C dx fs,x=.ref a/\H2 a=some (.ins C dx fs)/\Cls K C/\Nf K C f/\fs.length < 1000/\
 D.nx σ (upd H2 a (.ins C dx (Mq f y fs)))
section
theorem Ay6 (ha:PE X o ta) (hv:PE X value tv) (hs:swapsWith value (some (.Attribute o f pos')) pos.line X.env=pure false):PS X (.Assign [.Attribute o f pos'] value pos) (Bfz X.K ta tv f):=by
 intro aa s σ H D I h;refine plainObj_wpAny_Assign_Attribute (thn (hv aa s σ H _ I h) fun u s1 ⟨y,H1,I1,ry,q⟩=>thn (ha aa s1 σ H1 _ I1 q) fun ov s2 ⟨x,H2,I2,rx,a,C,dx,fs,ex,ea,c,n,l,q2⟩=>?_) hs;subst ex;obtain rfl:ov=Value.ref a:=rx;exact Agv I2 ea c n l ry fun s3 I3=>⟨σ,_,I3,q2⟩
def Bda:V->V->Hp->VK->Prop:=fun x y H Q=>∃i j,x=.int i/\y=.int j/\Q (.int (i+j)) H
def Bdb:V->V->Hp->VK->Prop:=fun x y H Q=>∃i j,x=.int i/\y=.int j/\Q (.int (i - j)) H
end
section
inductive Vd (K:PySem.W.Frag) (H:Hp):V->Value->Prop where
 |non:Vd K H .non (.type "NoneType")
 |bl (x:Bool):Vd K H (.bl x) (.type "bool")
 |int (i:Int):Vd K H (.int i) (.type "int")
 |str (x:Str):Vd K H (.str x) (.type "str")
 |flt (x:UInt64):Vd K H (.flt x) (.type "float")
 |lst {a:Addr} {xs:List V} (e:H a=some (.lst xs)):Vd K H (.ref a) (.type "list")
 |frz {a:Addr} {o:Obj} {xs:List V} (e:H a=some (.frz o (.lst xs))):Vd K H (.ref a) (.type "list")
 |tup {a:Addr} {xs:List V} (e:H a=some (.tup xs)):Vd K H (.ref a) (.type "tuple")
 |dK {a:Addr} {kvs:List (Key×V)} (e:H a=some (.dK kvs)):Vd K H (.ref a) (.type "dict")
 |dT {a:Addr} {kvs:List (List Key×V)} (e:H a=some (.dT kvs)):Vd K H (.ref a) (.type "dict")
 |ins {a C dx:Addr} {fs:List (Str×V)} (e:H a=some (.ins C dx fs)) (cl:Cls K C) (ha:PySem.W.findIn K (.ref C) "__class__"=some (some (.builtin "object.__class__")))
   (hn:specialIn K (.builtin "object.__class__") "__get__"=some (some (.builtin "getset_descriptor.__get__"))) (htk:PySem.W.takesIn K (.builtin "object.__class__")=some true)
   (hm:PySem.W.mroIn K C (.type "object")=some true):Vd K H (.ref a) (.ref C)
theorem Ak2 {x:V} {u t:Value} (I:Inv X aa σ H s) (rx:RelV x u) (ty:Vd X.K H x t) (e:kitOne X.K t c=some b) (h:∀tk,Q (.bool b) { s with toks:=tk }) :
  wpAny (model X.prog X.w) A (call (.builtin "isinstance") [u,c]) Q E s:=by
 cases ty with
 |non=>cases (show u=Value.none from rx);exact kia_one PySem.W.kitx_none I.kIn True.intro e (fun z=>nomatch z) h
 |bl y=>cases (show u=Value.bool y from rx);exact kia_one PySem.W.kitx_bool I.kIn True.intro e (fun z=>nomatch z) h
 |int i=>obtain⟨t,q⟩:=(show ∃t,u=Value.int i t from rx);cases q;exact kia_one PySem.W.kitx_int I.kIn True.intro e (fun z=>nomatch z) h
 |str y=>obtain⟨t,q⟩:=(show ∃t,u=Value.str y t from rx);cases q;exact kia_one PySem.W.kitx_str I.kIn True.intro e (fun z=>nomatch z) h
 |flt y=>obtain⟨t,q⟩:=(show ∃t,u=Value.float y t from rx);cases q;exact kia_one PySem.W.kitx_float I.kIn True.intro e (fun z=>nomatch z) h
 |@lst a xs ea=>
  cases (show u=Value.ref a from rx);obtain⟨_,_,n,_,h1⟩:=(show Dn X.prog X.w H s.heap a (.lst xs) from I.hok a _ ea);exact kia_one kitx_list I.kIn ⟨_,h1,rfl⟩ e (fun z=>nomatch z) h
 |@frz a ob xs ea=>
  cases (show u=Value.ref a from rx);obtain⟨_,_,_,n,_,h1⟩:=(show Dn X.prog X.w H s.heap a (.frz ob (.lst xs)) from I.hok a _ ea);exact kia_one kitx_list I.kIn ⟨_,h1,rfl⟩ e (fun z=>nomatch z) h
 |@tup a xs ea=>
  cases (show u=Value.ref a from rx);obtain⟨_,_,_,p⟩:=(show Dn X.prog X.w H s.heap a (.tup xs) from I.hok a _ ea);obtain⟨o,h1,h2,_⟩:=p;exact kia_one PySem.W.kitx_tuple I.kIn ⟨o,h1,h2⟩ e (fun z=>nomatch z) h
 |@dK a kvs ea=>
  cases (show u=Value.ref a from rx);obtain⟨_,_,vs,_,p⟩:=(show Dn X.prog X.w H s.heap a (.dK kvs) from I.hok a _ ea);obtain⟨o,es,ep,h1,h2,_⟩:=p;exact kia_one kitx_dict I.kIn ⟨o,h1,h2.1⟩ e (fun z=>nomatch z) h
 |@dT a kvs ea=>
  cases (show u=Value.ref a from rx);obtain⟨_,_,xs,_,o,es,ep,h1,h2,_⟩:=(show Dn X.prog X.w H s.heap a (.dT kvs) from I.hok a _ ea);exact kia_one kitx_dict I.kIn ⟨o,h1,h2.1⟩ e (fun z=>nomatch z) h
 |@ins a C dx fs ea cl ha hn htk hm=>
  cases (show u=Value.ref a from rx);obtain⟨mA,O,_⟩:=Xf I.hok ea;obtain⟨od,J,_⟩:=O.look;exact kia_one (PySem.W.kitx_own (cl.get _) cl.hd ha hn htk hm) I.kIn J e (fun z=>nomatch z) h
end
structure Hc (k:Nat) (A:Around) (cm:Bool:=true):Prop where
 hd:cm=true->A.handled=none
 dp:A.depth+3 * k+5 < recursionLimit
 un:A.units+16 * k+200 < cLine
theorem Hc.mono {j k:Nat} {A:Around} {cm:Bool} (r:Hc k A cm) (h:j<=k):Hc j A cm:=⟨r.hd,by have:=r.dp;omega,by have:=r.un;omega⟩
theorem Hc.deeper {k:Nat} {A:Around} {cm:Bool} (r:Hc (k+1) A cm) (env:Env):Hc k (A.deeper env) cm:=
 ⟨r.hd,by have:=r.dp;show A.depth+1+3 * k+5 < _;omega,by have:=r.un;show A.units+3+16 * k+200 < _;omega⟩
theorem Agw {A:Around} {C:Addr} {us:List Value} {kw:List (Str×Value)}:(A.under (.builtin "type.__call__" ⟨.ref C::us,kw⟩)).depth=A.depth+1:=by
 first|rfl|simp[Around.under,Code.weight,Code.isCreation,Code.isGuard,Code.isCaller,Code.frames,Code.isFrame,guardIds]
theorem Agx {A:Around} {C:Addr} {us:List Value} {kw:List (Str×Value)}:(A.under (.builtin "type.__call__" ⟨.ref C::us,kw⟩)).units=A.units+1:=by
 first|rfl|simp[Around.under,Code.cUnits,Code.frames,Code.isFrame]
theorem Hc.make {k:Nat} {A:Around} {cm:Bool} (r:Hc (k+1) A cm) (C:Addr) (us:List Value) (kw:List (Str×Value)):Hc k (A.under (.builtin "type.__call__" ⟨.ref C::us,kw⟩)) cm:=
 ⟨r.hd,by have:=r.dp;rw[Agw];omega,by have:=r.un;rw[Agx];omega⟩
theorem Hc.depth {k:Nat} {A:Around} {cm:Bool} (r:Hc k A cm):A.depth < recursionLimit:=by have:=r.dp;omega
def An0:TA:=fun _ H Q=>Q [] H
def Aeb (ta:TE) (tr:TA):TA:=fun σ H Q=>ta σ H fun x H1=>tr σ H1 fun xs H2=>Q (x::xs) H2
section
theorem Agy:PA X [] An0:=fun _ _ _ _ H Q I h=>Calls.spliced_nil ⟨[],H,I,.nil,h⟩
theorem Xg (ha:PE X e te) (hr:PA X es t) (hs:starEach (e::es) X.env=(false,eval e X.env)::starEach es X.env:=by rfl):PA X (e::es) (Aeb te t):=by
 intro pos aa s σ H Q I h;rw[hs];show wpAny _ _ (spliced ((false,eval e X.env)::backTo pos (starEach es X.env))) _ _ s;refine Calls.spliced_cons (thn (ha aa s σ H _ I h) fun u s1 ⟨x,H1,I1,r1,q1⟩=>?_);exact thn (hr pos aa s1 σ H1 _ I1 q1) fun us s2 ⟨xs,H2,I2,r2,q2⟩=>⟨x::xs,H2,I2,.cons r1 r2,q2⟩
def Bdc (t:TA):TE:=fun σ H Q=>t σ H fun xs H1=>xs.length<=sizeLine/\∀p,H1 p=none->Q (.ref p) (upd H1 p (.tup xs))
def Bdd (t:TA):TE:=fun σ H Q=>t σ H fun xs H1=>xs.length<=sizeLine/\∀p,H1 p=none->Q (.ref p) (upd H1 p (.lst xs))
theorem Ay7 {x1} (h:PA X es t):PE X (.Tuple es x1 pos) (Bdc t):=by
 intro aa s σ H Q I hq;refine wpAny_Tuple_spliced (thn (h pos aa s σ H _ I hq) fun us s1 ⟨xs,H1,I1,r,z,q⟩=>⟨by rw[<-r.length];exact z,?_⟩)
 have hf:H1 s1.heap.objs.size=none:=I1.hok.fresh (le_refl _);refine⟨.ref s1.heap.objs.size,upd H1 s1.heap.objs.size (.tup xs),I1.laid (t':=s1.toks) (fun b u e=>get?_push_of_some _ e) (le_refl _) ?_,rfl,q _ hf⟩;exact⟨z,us,r,⟨_,get?_push_size _ rfl,rfl,_,rfl⟩⟩
theorem Ay8 (h:PA X es t):PE X (.List es pos) (Bdd t):=by
 intro aa s σ H Q I hq;refine wpAny_List_spliced (thn (h pos aa s σ H _ I hq) fun us s1 ⟨xs,H1,I1,r,z,q⟩=>⟨by rw[<-r.length];exact z,?_⟩)
 have hf:H1 s1.heap.objs.size=none:=I1.hok.fresh (le_refl _);refine⟨.ref s1.heap.objs.size,upd H1 s1.heap.objs.size (.lst xs),I1.laid (t':=s1.toks) (fun b u e=>get?_push_of_some _ e) (le_refl _) ?_,rfl,q _ hf⟩;exact⟨z,us,0,r,get?_push_size _ rfl⟩
end
abbrev Sp:=List V->Hp->VK->XK->Prop
abbrev CXT:=List Env->Hp->Shared->XK->Value->Shared->Prop
structure Agz (P:Program) (w:World) (K:PySem.W.Frag) (mg:Str->Option Value) (base:Heap) (A:Around) (outer:List Env) (s:Shared) (H:Hp):Prop where
 frames:A.frames=some outer
 mod:Mod K mg base
 bs:∀b o,base.get? b=some o->s.heap.get? b=some o/\H b=none
 bsz:base.objs.size<=s.heap.objs.size
 funs:s.heap.FunFrames base outer
 frf:∀b∈frs outer,H b=none
 hok:HOk P w H s.heap
 bare:AllBare s.gens
def CE (outer:List Env) (P:Program) (w:World) (H:Hp) (s:Shared) (Q:VK) (u:Value) (s':Shared):Prop:=
 ∃v H',s'.os=s.os/\AllBare s'.gens/\Un (frs outer) [] H H' s.heap s'.heap/\HOk P w H' s'.heap/\RelV v u/\Q v H'
def CR (CX:CXT) (outer:List Env) (P:Program) (w:World) (H:Hp) (s:Shared) (Q:VK) (E:XK) (r:Result) (s':Shared):Prop:=
 match r with
 |.ok (.ret u)=>CE outer P w H s Q u s'
 |.ok _=>False
 |.error e=>CX outer H s E e s'
structure Gw (P:Program) (w:World) (K:PySem.W.Frag) (mg:Str->Option Value) (base:Heap) (CX:CXT) (k:Nat) (f:Addr) (fd:FuncData) (ps:List Str) (sp:Sp) (cm:Bool:=true):Prop where
 len:∀vs H Q E,sp vs H Q E->vs.length=ps.length
 run:∀(A:Around) (outer:List Env) (s:Shared) (H:Hp) (args:Args) (us:List Value) (vs:List V) (Q:VK) (E:XK),Hc k A cm->Agz P w K mg base A outer s H->BindsTo s fd args (ps.zip us)->Vals vs us->sp vs H Q E->
  codeAny (model P w) A (.call (.ref f) args) (CR CX outer P w H s Q E) s
theorem Gw.mono {P:Program} {w:World} {K:PySem.W.Frag} {mg:Str->Option Value} {base:Heap} {CX:CXT} {j k:Nat} {f:Addr} {fd:FuncData} {ps:List Str} {sp:Sp} {cm:Bool} (F:Gw P w K mg base CX j f fd ps sp cm) (h:j<=k) :
  Gw P w K mg base CX k f fd ps sp cm:=⟨F.len,fun A outer s H args us vs Q E hr=>F.run A outer s H args us vs Q E (hr.mono h)⟩
theorem Agz.make {P:Program} {w:World} {K:PySem.W.Frag} {mg:Str->Option Value} {base:Heap} {A:Around} {outer:List Env} {s:Shared} {H:Hp} (e:Agz P w K mg base A outer s H) (C:Addr) (us:List Value) (kw:List (Str×Value)) :
  Agz P w K mg base (A.under (.builtin "type.__call__" ⟨.ref C::us,kw⟩)) outer s H:=⟨by first|exact e.frames|(simpa [Around.under,Code.envs,Code.isFrame,pushEnvs] using e.frames),e.mod,e.bs,e.bsz,e.funs,e.frf,e.hok,e.bare⟩
section
theorem Inv.env0 (I:Inv X aa σ H s):Agz X.prog X.w X.K X.mg X.base X.A X.stack s H:=
 ⟨I.ok.frames,I.ok.mod,I.bs,le_trans I.ok.bsz I.sz,I.stack,I.stkFree,I.hok,I.bare⟩
theorem Inv.after {Q:VK} {u:Value} (I:Inv X aa σ H s) (h:CE X.stack X.prog X.w H s Q u s'):EP X aa σ Q u s':=by
 obtain⟨v,H',os,bare,un,hok,r,q⟩:=h;obtain⟨hh,g,d,t,os'⟩:=s';obtain rfl:os'=s.os:=os;exact⟨v,H',I.call (h':=hh) (g':=g) (d':=d) (t':=t) (ch:=[]) un hok bare (fun b z=>absurd z (by simp)),r,q⟩
end
def Binds (K:PySem.W.Frag) (fd:FuncData) (ps:List Str) (ds:List Value):Prop:=
 ∀(s:Shared) (us:List Value),K.In s.heap->(us ++ ds).length=ps.length->BindsTo s fd ⟨us,[]⟩ (ps.zip (us ++ ds))
theorem Binds.all {K:PySem.W.Frag} {fd:FuncData} {ps:List Str} (h:∀us:List Value,us.length=ps.length->bindArgs fd ⟨us,[]⟩=pure (ps.zip us)):Binds K fd ps []:=fun s us _ hl=>by
 rw[append_nil] at hl ⊢
 exact .of_eq (h us hl)
def Ay9 (CX:CXT) (X:Cx) (E:XK):Prop:=∀(aa:List (Addr×Obj)) (σ:St) (H:Hp) (s:Shared) (e:Value) (s':Shared),Inv X aa σ H s->CX X.stack H s E e s'->X.xe e s'
section
variable {k:Nat}
structure Mk (K:PySem.W.Frag) (C f:Addr):Prop where
 makes:makesIn K C=true
 init:PySem.W.findIn K (.ref C) "__init__"=some (some (.ref f))
 fn:isFn K (.ref f)=true
 kp:keepIn K (.ref C)=true
end
def PK (X:Cx) (kws:List Keyword) (t:TA):Prop:=
 ∀(pos:Pos) (aa:List (Addr×Obj)) (s:Shared) (σ:St) (H:Hp) (Q:List V->Hp->Prop),Inv X aa σ H s->t σ H Q->wpAny (model X.prog X.w) X.A (evalAll ((backToKw pos (keywordEach kws X.env)).map (·.2))) (AP X aa σ Q) X.xe s
section
variable {k:Nat}
theorem Aza:PK X [] An0:=fun _ _ _ _ H Q I h=>wpAny_evalAll_nil ⟨[],H,I,.nil,h⟩
theorem As5 (ha:PE X e te) (hr:PK X kws t):PK X (⟨nm,e,kpos⟩::kws) (Aeb te t):=by
 intro pos aa s σ H Q I h;show wpAny _ _ (evalAll ((do let v<-eval e X.env;standAt pos;pure v)::(backToKw pos (keywordEach kws X.env)).map (·.2))) _ _ s
 refine wpAny_evalAll_cons (wpAny_bind (thn (ha aa s σ H _ I h) fun u s1 ⟨x,H1,I1,r1,q1⟩=>wpAny_bind (wpAny_standAt (wpAny_pure ?_))));exact thn (hr pos aa s1 σ H1 _ I1 q1) fun us s2 ⟨xs,H2,I2,r2,q2⟩=>⟨x::xs,H2,I2,.cons r1 r2,q2⟩
end
structure Fj (N P:List Str) (sc:Scope):Prop where
 kind:sc.kind=.function
 co:sc.isCoroutine=false
 gen:sc.isGenerator=false
 nd:N.Nodup
 pre:N.take P.length=P
 par:∀x∈P,sc.names.lookup x=some .local\/sc.names.lookup x=some .cell
 nofree:∀y∈sc.names,y.2≠.free
theorem Aas {kindOf:Str->Option NameKind} {x:Str}:∀{binds:List (Str×Value)} {m:Str->Option Value},(∀v,(x,v)∉binds)->bindL kindOf binds m x=m x
 |[],_,_=>rfl
 |(n,v)::r,m,h=>by
  unfold bindL;rw[Aas fun w hw=>h w (mem_cons_of_mem _ hw)];split
  .have:x≠n:=by rintro rfl;exact h v mem_cons_self
   simp[this]
  .rfl
theorem Aat {kindOf:Str->Option NameKind} {x:Str}:∀{binds:List (Str×Value)} {m:Str->Option Value},(∀v,(x,v)∉binds)->bindC kindOf binds m x=m x
 |[],_,_=>rfl
 |(n,v)::r,m,h=>by
  unfold bindC;rw[Aat fun w hw=>h w (mem_cons_of_mem _ hw)];split
  .rfl
  .have:x≠n:=by rintro rfl;exact h v mem_cons_self
   simp[this]
theorem Aau {kindOf:Str->Option NameKind} {x:Str} {v:Value}:∀{P:List Str} {vs:List Value} {i:Nat} {m:Str->Option Value},P.Nodup->P[i]?=some x->vs[i]?=some v->kindOf x=some .local->
  bindL kindOf (P.zip vs) m x=some v
 |[],_,_,_,_,h,_,_=>by simp at h
 |_::_,[],_,_,_,_,h,_=>by simp at h
 |p::P,w::vs,0,m,nd,h1,h2,hk=>by
  simp at h1 h2;subst h1;subst h2;show bindL kindOf ((p,w)::P.zip vs) m p=_;unfold bindL;rw[Aas fun v hv=>(nodup_cons.mp nd).1 (of_mem_zip hv).1,if_pos hk];simp
 |p::P,w::vs,i+1,m,nd,h1,h2,hk=>by
  show bindL kindOf ((p,w)::P.zip vs) m x=_;unfold bindL;exact Aau (i:=i) (nodup_cons.mp nd).2 (by simpa using h1) (by simpa using h2) hk
theorem Aav {kindOf:Str->Option NameKind} {x:Str} {v:Value}:∀{P:List Str} {vs:List Value} {i:Nat} {m:Str->Option Value},P.Nodup->P[i]?=some x->vs[i]?=some v->kindOf x≠some .local->
  bindC kindOf (P.zip vs) m x=some v
 |[],_,_,_,_,h,_,_=>by simp at h
 |_::_,[],_,_,_,_,h,_=>by simp at h
 |p::P,w::vs,0,m,nd,h1,h2,hk=>by
  simp at h1 h2;subst h1;subst h2;show bindC kindOf ((p,w)::P.zip vs) m p=_;unfold bindC;rw[Aat fun v hv=>(nodup_cons.mp nd).1 (of_mem_zip hv).1,if_neg hk];simp
 |p::P,w::vs,i+1,m,nd,h1,h2,hk=>by
  show bindC kindOf ((p,w)::P.zip vs) m x=_;unfold bindC;exact Aav (i:=i) (nodup_cons.mp nd).2 (by simpa using h1) (by simpa using h2) hk
def start (N:List Str) (vs:List V):St:=vs.map some ++ List.replicate (N.length - vs.length) none
def Ss (CX:CXT) (P:Program) (w:World) (K:PySem.W.Frag) (mg:Str->Option Value) (base:Heap) (N:List Str) (aj:Str) (scope:Scope) (f:Addr) (cd:Value) (A:Around) (outer:List Env) (s:Shared) (H:Hp) (E:XK) (cm:Bool:=true):Cx where
 prog:=P
 w:=w
 K:=K
 mg:=mg
 base:=base
 A:=A.deeper (envOfC aj scope s.heap.objs.size f cd)
 N:=N
 s₀:=s
 H₀:=H
 env:=envOfC aj scope s.heap.objs.size f cd
 outer:=outer
 stack:=envOfC aj scope s.heap.objs.size f cd::outer
 ex:=[]
 calm:=cm
 fn:=fun _=>true
 pn:=[]
 xe:=fun e s'=>wpAny (model P w) (A.deeper (envOfC aj scope s.heap.objs.size f cd)) (leaving (envOfC aj scope s.heap.objs.size f cd) e) (fun _ s''=>CX outer H s E e s'') (fun e' s''=>CX outer H s E e' s'') s'
theorem Aec {sc:Scope} {n:Nat} {x:Str} (h:sc.names.lookup x=some .cell):∃c,(cellsFrom n sc.names []).lookup x=some c:=by
 have q:=PySem.W.cellsFrom_some sc.names n [] (.inl h);exact isSome_iff_exists.mp q
theorem Ak3 {cm:Bool} {CX:CXT} {P:Program} {w:World} {K:PySem.W.Frag} {mg:Str->Option Value} {base:Heap} {N ps:List Str} {aj:Str} {scope:Scope} {f:Addr} {cd:Value} {A:Around} {outer:List Env} {s s1:Shared} {H:Hp} {E:XK} {us:List Value} {vs:List V}
  (S:Fj N ps scope) (hd:cm=true->A.handled=none) (e0:Agz P w K mg base A outer s H) (hl:vs.length=ps.length) (r:Vals vs us)
  (x:InCallC s s.heap.objs.size (bindL (envOfC aj scope s.heap.objs.size f cd).kindOf (ps.zip us) fun _=>none) (cellsFrom (s.heap.objs.size+1) scope.names []) (bindC (envOfC aj scope s.heap.objs.size f cd).kindOf (ps.zip us) fun _=>none) s1) :
  Inv (Ss CX P w K mg base N aj scope f cd A outer s H E cm) [] (start N vs) H s1:=by
 have hpl:ps.length<=N.length:=by have:=congrArg List.length S.pre;rw[length_take] at this;omega
 obtain⟨h1,tk,rfl,hk⟩:=x.done;have noA:∀b:Addr,b∉(Ss CX P w K mg base N aj scope f cd A outer s H E cm).ex:=fun b z=>absurd (show b∈([]:List Addr) from z) (by simp)
 refine⟨⟨e0.mod,S.kind,rfl,rfl,le_refl _,fun y z c h1 h2=>?_,fun y hy=>?_,fun y c _ h=>?_,hd,Around.frames_deeper e0.frames,.inr ⟨rfl,rfl⟩,fun b z=>absurd z (noA b),e0.bs,e0.bsz,fun b _ _=>noA b,fun b z=>absurd z (noA b),e0.funs,e0.frf⟩,
  rfl,e0.bare,Un.kept hk,⟨_,x.toInCall.ns,fun i y v h1 h2 h3=>?_⟩,fun y c h=>⟨_,x.cell y c h⟩,e0.hok.fresh (le_refl _),fun y c h=>?_,fun p hp=>absurd (show p∈([]:List (Addr×Obj)) from hp) (by simp),e0.hok.kept hk,?_⟩
 .exact name_of_addr x.apart (PySem.mem_of_lookup h1) (PySem.mem_of_lookup h2)
 .have hy:scope.names.lookup y=some .cell\/scope.names.lookup y=some .free:=hy;rcases hy with hy|hy
  .exact Aec hy
  .exact absurd rfl (S.nofree _ (PySem.mem_of_lookup hy))
 .exact le_of_lt (x.above y c (PySem.mem_of_lookup h))
 .have hi:i < vs.length:=by
   unfold start at h2;by_cases hi:i < vs.length
   .exact hi
   .rw[getElem?_append_right (by simpa using hi)] at h2
    rw[List.getElem?_replicate] at h2;split at h2 <;> cases h2
  have ha:vs[i]?=some v:=by
   unfold start at h2;rw[getElem?_append_left (by simpa using hi),getElem?_map] at h2
   cases e:vs[i]? with
   |none=>rw[e] at h2;cases h2
   |some a=>rw[e] at h2;cases h2;rfl
  obtain⟨u,hu,rv⟩:=r.get ha;have hp:ps[i]?=some y:=by
   rw[<-S.pre,List.getElem?_take_of_lt (by omega)];exact h1
  have ndP:ps.Nodup:=by rw[<-S.pre];exact S.nd.sublist (List.take_sublist _ _)
  refine⟨u,rv,?_⟩;rcases S.par y (mem_of_getElem? hp) with k|k
  .exact .inl ⟨k,Aau ndP hp hu k⟩
  .obtain⟨c,e⟩:=Aec (n:=s.heap.objs.size+1) k;refine .inr ⟨.inl k,c,e,?_⟩;have q:=x.cell y c e;rw[Aav ndP hp hu (by show scope.names.lookup y≠_;rw[k];decide)] at q
   exact q
 .exact e0.hok.fresh (le_of_lt (x.above y c (PySem.mem_of_lookup h)))
 .unfold start;show _=N.length;rw[length_append,length_map,length_replicate];omega
theorem Bde {cm:Bool} {CX:CXT} {P:Program} {w:World} {K:PySem.W.Frag} {mg:Str->Option Value} {base:Heap} {k:Nat} {f:Addr} {name aj:Str} {params:Arguments} {body:List Stmt} {scope:Scope} {dV kV doc pm cdv ct oc:Value} {an od:Option Addr}
  {osl:Array (Option Value)} {N ps:List Str} {sp:Sp} (lk:K.lookup f=some ⟨oc,od,.func (fnOf name aj params body scope dV kV doc pm an cdv ct),osl⟩) (hcd:codeIn K cdv aj=true) (S:Fj N ps scope)
  (len:∀vs H Q E,sp vs H Q E->vs.length=ps.length)
  (hbody:∀(A:Around) (outer:List Env) (s:Shared) (H:Hp) (vs:List V) (Q:VK) (E:XK),Hc k (A.deeper (envOfC aj scope s.heap.objs.size f cdv)) cm->sp vs H Q E->
   ∃t,PSs (Ss CX P w K mg base N aj scope f cdv A outer s H E cm) body t/\t { nx:=fun _ H'=>Q .non H',rt:=Q } (start N vs) H) :
  Gw P w K mg base CX (k+1) f (fnOf name aj params body scope dV kV doc pm an cdv ct) ps sp cm:=by
 refine⟨len,fun A outer s H args us vs Q E hr e0 hb r hsp=>?_⟩;have hl:=len _ _ _ _ hsp;have KX:K.In s.heap:=e0.mod.kin.keeps fun b o e=>(e0.bs b o e).1;have lim:s.heap.NoLimit:=e0.mod.nolimit.keeps fun b o e=>(e0.bs b o e).1;have az:∀y∈ps.zip us,scope.names.lookup y.1=some .local\/(scope.names.lookup y.1=some .cell/\((cellsFrom (s.heap.objs.size+1) scope.names []).lookup y.1).isSome=true):=fun⟨n,v⟩ hy=>by
  rcases S.par n (of_mem_zip hy).1 with q|q
  .exact .inl q
  .exact .inr ⟨q,PySem.W.cellsFrom_some _ _ _ (.inl q)⟩
 refine codeAny_call_function hr.depth (KX _ _ lk) rfl S.co S.gen rfl (PySem.W.codeRec_of KX hcd) (hb _ _ _ _ ?_);refine wpAny_newFunctionEnv_cells S.kind az fun env he s1 x=>?_;subst he;refine⟨lim.keeps x.toInCall.keep,codeAny_func ?_⟩;obtain⟨t,ht,hq⟩:=hbody A outer s H vs Q E (hr.deeper _) hsp;have I:Inv (Ss CX P w K mg base N aj scope f cdv A outer s H E cm) [] (start N vs) H s1:=Ak3 S hr.hd e0 hl r x;refine wpAny_mono (ht [] s1 (start N vs) H _ I hq) (fun fl s' hs=>?_) fun e s' hs=>hs;have fin:∀{σ':St} {H':Hp} {v:V} {u:Value},Inv (Ss CX P w K mg base N aj scope f cdv A outer s H E cm) [] σ' H' s'->RelV v u->Q v H'->CE outer P w H s Q u s':=
  fun {σ' H' v u} J rv q=>⟨v,H',J.os,J.bare,J.base,J.hok,rv,q⟩
 cases fl with
 |ret u=>
  obtain⟨v,σ',H',J,rv,q⟩:=hs;exact fin J rv q
 |next=>
  obtain⟨σ',H',J,q⟩:=hs;exact fin (v:=V.non) (u:=Value.none) J rfl q
 |brk=>
  obtain⟨_,_,_,q⟩:=hs;exact False.elim q
 |cont=>
  obtain⟨_,_,_,q⟩:=hs;exact False.elim q
section
def tCB (r:List V->Hp->VK->Prop) (t:TA):TE:=fun σ H Q=>t σ H fun vs H1=>r vs H1 Q
theorem An1 {X:Cx} {x:Str} {p pos:Pos} {e:Expr} {es:List Expr} {t:TA} {id:String} {r:List V->Hp->VK->Prop} (hc:Hh X (.builtin id) r) (hg:Gl X x) (hm:X.mg x=none) (hv:bootBuiltins x=some (.builtin id)) (ha:PA X (e::es) t) (hn:x≠"__name__":=by decide) (hdb:(x==("__debug__":Str))=false:=by decide)
  (he:starEach (e::es) X.env=(false,eval e X.env)::starEach es X.env:=by rfl) (hpl:(backTo pos (starEach es X.env)).any (·.1)=false:=by rfl):PE X (.Call (.Name x p) (e::es) [] pos) (tCB r t):=by
 intro aa s σ H Q I h;refine wpAny_Call_Name_kw (Va I hg hm hv ?_ hn hdb);exact PyProof.Rows.callWith_builtin1 (thn (ha pos aa s σ H _ I h) fun us s1 ⟨vs,H1,I1,r1,q1⟩=>hc aa s1 σ H1 vs us Q I1 r1 q1) he hpl
theorem Ak4 (hc:Hh X (.type T) r) (hg:Gl X x) (hm:X.mg x=none) (hv:bootBuiltins x=some (.type T)) (ha:PA X (e::es) t) (hn:x≠"__name__":=by decide) (hdb:(x==("__debug__":Str))=false:=by decide)
  (he:starEach (e::es) X.env=(false,eval e X.env)::starEach es X.env:=by rfl) (hpl:(backTo pos (starEach es X.env)).any (·.1)=false:=by rfl):PE X (.Call (.Name x p) (e::es) [] pos) (tCB r t):=by
 intro aa s σ H Q I h;refine wpAny_Call_Name_kw (Va I hg hm hv ?_ hn hdb);exact PyProof.Rows.callWith_type1 (thn (ha pos aa s σ H _ I h) fun us s1 ⟨vs,H1,I1,r1,q1⟩=>hc aa s1 σ H1 vs us Q I1 r1 q1) he hpl
end
end L2
namespace HT
open PySem PyProof.Rows
section
open PySem.SeqAt
open PySem.AutoSeq1 (wpAny_loadPart')
open PySem.MeetsSeq PySem.MeetsSeq2 PySem.MeetsSeq3
end
section
theorem cat_tup {t b:Addr} {vs ws:List Value} {Q:Value->Shared->Prop} (ht:IsTup s.heap t vs.toArray) (hb:IsTup s.heap b ws.toArray) (hv:vs≠[])
  (h1:ws=[]->Q (.ref t) s) (h2:ws≠[]->Q (.ref s.heap.objs.size) { s with heap:=s.heap.push { cls:=.type "tuple",data:=.seq (vs ++ ws).toArray } })
  (hsz:vs.length+ws.length<=sizeLine):wpAny (model prog w) A (binaryOp .Add (.ref t) (.ref b)) Q E s:=by
 obtain⟨⟨cls,dd,data,sl⟩,ho,hc,n,hd⟩:=id ht;obtain⟨⟨cls2,dd2,data2,sl2⟩,ho2,hc2,n2,hd2⟩:=id hb;simp only at hc hd hc2 hd2;subst hc hd hc2 hd2;have e:vs.toArray ++ ws.toArray=(vs ++ ws).toArray:=by simp
 by_cases hw:ws=[]
 .exact concat_meets ⟨_,ho,rfl⟩ ⟨_,ho2,rfl⟩ noFill_tuple_add seq_tuple_add PySem.F.slot_tuple_add PySem.F.entry_tuple_add (PySem.F.args_tuple_add_2 _ _)
   (tuple_addW1 t b vs.toArray ws.toArray n n2 dd dd2 sl sl2 (by simpa using hv) (by simp[hw])) ⟨ho,ho2,h1 hw⟩
 .refine concat_meets ⟨_,ho,rfl⟩ ⟨_,ho2,rfl⟩ noFill_tuple_add seq_tuple_add PySem.F.slot_tuple_add PySem.F.entry_tuple_add (PySem.F.args_tuple_add_2 _ _)
   (tuple_addW2 t b vs.toArray ws.toArray n n2 dd dd2 sl sl2 (by simpa using hv) (by simpa using hw) (by rw[size_toArray,size_toArray];exact hsz)) ⟨ho,ho2,?_⟩
  rw[e];exact h2 hw
def sIx (n d:Nat):Option Int->Nat
 |none=>d
 |some v=>if v < 0 then (v+(n:Int)).toNat else min v.toNat n
theorem sIx_nat (n d k:Nat):sIx n d (some (k:Int))=min k n:=by
 show (if (k:Int) < 0 then ((k:Int)+(n:Int)).toNat else min (k:Int).toNat n)=min k n
 rw[if_neg (by omega),toNat_natCast]
theorem Azb (n d:Nat) (hd:d<=n) (o:Option Int):sIx n d o<=n:=by
 cases o with
 |none=>exact hd
 |some v=>
  show (if v < 0 then (v+(n:Int)).toNat else min v.toNat n)<=n
  by_cases hv:v < 0
  .rw[if_pos hv];omega
  .rw[if_neg hv];exact Nat.min_le_right _ _
theorem Aiy (v:Int) (n d:Nat):(if v < 0 then max (v+(n:Int)) 0 else min v (n:Int))=((sIx n d (some v):Nat):Int):=by
 show (if v < 0 then max (v+(n:Int)) 0 else min v (n:Int))=(((if v < 0 then (v+(n:Int)).toNat else min v.toNat n):Nat):Int)
 by_cases hv:v < 0
 .simp only[if_pos hv];omega
 .simp only[if_neg hv];omega
theorem Ag0 (lo hi:Option Int) (n:Nat):Builtin.Slice.sliceAdjust lo hi 1 (n:Int)=(((sIx n 0 lo:Nat):Int),((sIx n n hi:Nat):Int)):=by
 have h1:¬ ((1:Int) < 0):=by omega
 unfold Builtin.Slice.sliceAdjust;simp only[h1,if_false];refine Prod.ext ?_ ?_
 .cases lo with
  |none=>rfl
  |some v=>exact Aiy v n 0
 .cases hi with
  |none=>rfl
  |some v=>exact Aiy v n n
theorem Ag1 (i j:Nat):Builtin.Slice.slicePlaces (i:Int) (j:Int) 1=j - i:=by
 unfold Builtin.Slice.slicePlaces;have h1:(1:Int) > 0:=by omega
 simp only[h1,if_true,ediv_one];split <;> omega
theorem X5 {v:Value} {o:Option Int} {Q:Option Int->Shared->Prop} (p:IsPart v o) (h:Q o s):wpAny (model prog w) A (Builtin.Slice.slicePartIndex v) Q E s:=by
 cases p with
 |none=>exact slicePart_none h
 |int i t=>exact slicePart_int h
theorem Mr {sl:Addr} {vl vu:Value} {lo hi:Option Int} {n:Nat} {Q:Int×Int×Nat->Shared->Prop} (hs:s.heap.IsSliceOf sl vl vu .none) (pl:IsPart vl lo) (pu:IsPart vu hi)
  (h:Q (((sIx n 0 lo:Nat):Int),1,sIx n n hi - sIx n 0 lo) s):wpAny (model prog w) A (Builtin.Slice.sliceApplied (.ref sl) (pure (n:Int))) Q E s:=by
 obtain⟨os,hos,hcs,hds⟩:=id hs;unfold Builtin.Slice.sliceApplied Builtin.Slice.sliceFields;refine wpAny_bind (wpAny_bind (wpAny_field hos hds (x:=vl) rfl (wpAny_bind (wpAny_field hos hds (x:=vu) rfl (wpAny_bind (wpAny_field hos hds (x:=.none) rfl (wpAny_pure ?_)))))));refine wpAny_bind (slicePart_none ?_);show wpAny _ _ (if ((1:Int)==0)=true then _ else _) _ _ s
 rw[if_neg (by decide)]
 refine wpAny_bind (X5 pl (wpAny_bind (X5 pu (wpAny_bind (wpAny_pure ?_)))));show wpAny _ _ (match Builtin.Slice.sliceAdjust lo hi 1 (n:Int) with|(lo,hi)=>pure (lo,(1:Int),Builtin.Slice.slicePlaces lo hi 1)) _ _ s
 rw[Ag0 lo hi n];show wpAny _ _ (pure (((sIx n 0 lo:Nat):Int),(1:Int),Builtin.Slice.slicePlaces ((sIx n 0 lo:Nat):Int) ((sIx n n hi:Nat):Int) 1)) _ _ s;rw[Ag1];exact wpAny_pure h
theorem An2 (xs:Array Value) (i k:Nat):((List.range k).filterMap fun(m:Nat)=>xs[((i:Int)+(m:Int) * 1).toNat]?).toArray=((xs.toList.drop i).take k).toArray:=by
 have e:(fun(m:Nat)=>xs[((i:Int)+(m:Int) * 1).toNat]?)=fun m=>xs[i+m]?:=by
  funext m;have:((i:Int)+(m:Int) * 1).toNat=i+m:=by omega
  rw[this]
 rw[e];have:=pick_run xs i k;rw[List.filterMap_map] at this;have e2:((fun x=>xs[x]?) ∘ fun x=>i+x)=fun m=>xs[i+m]?:=rfl;rw[e2] at this;rw[this]
theorem getItem_tuple_cut {t sl:Addr} {items:Array Value} {vl vu:Value} {lo hi:Option Int} {Q:Value->Shared->Prop} (ht:IsTup s.heap t items) (hs:s.heap.IsSliceOf sl vl vu .none) (pl:IsPart vl lo) (pu:IsPart vu hi)
  (hw:¬ (sIx items.size 0 lo=0/\sIx items.size items.size hi=items.size))
  (h:Q (.ref s.heap.objs.size) { s with heap:=s.heap.push { cls:=.type "tuple",data:=.seq ((items.toList.drop (sIx items.size 0 lo)).take (sIx items.size items.size hi - sIx items.size 0 lo)).toArray } })
  (hsz:items.size<=sizeLine):wpAny (model prog w) A (getItem (.ref t) (.ref sl)) Q E s:=by
 have htake:sizeOk (.seq ((items.toList.drop (sIx items.size 0 lo)).take (sIx items.size items.size hi - sIx items.size 0 lo)).toArray):=by
  show ((items.toList.drop (sIx items.size 0 lo)).take (sIx items.size items.size hi - sIx items.size 0 lo)).toArray.size<=sizeLine;rw[size_toArray,length_take,length_drop,length_toList];omega
 have hj:sIx items.size items.size hi<=items.size:=Azb _ _ (le_refl _) hi;obtain⟨os,hos,hcs,hds⟩:=id hs;have hTs:s.TypeIs (.ref sl) "slice":=⟨os,hos,hcs⟩;unfold getItem
 try with_reducible refine wpAny_holding ?_
 first|refine wpAny_bind (wpAny_pure ?_)|skip
 refine wpAny_bind (wpAny_sequenceKey ht.typeIs (by decide) ?_)
 refine wpAny_bind (wpAny_callSpecial?_slot (name:=Str.ofString "__getitem__") ht.typeIs PyProof.Rows.slot_tuple_getitem
  (wpAny_call_entry PyProof.Rows.slot_tuple_getitem ht.typeIs entry_tuple_getitem ?_ (args_tuple_getitem _ _)))
 show wpAny _ _ (Builtin.Tuple.tupleItemsOf (.ref t) >>= _) _ _ s;refine wpAny_bind (tupleItemsOf_ ht ?_);refine wpAny_bind (wpAny_typeOf hTs ?_);rw[if_pos (by decide)]
 refine wpAny_bind (Mr hs pl pu ?_);have hno:¬ ((((sIx items.size 0 lo:Nat):Int)==0&&(1:Int)==1&&(sIx items.size items.size hi - sIx items.size 0 lo)==items.size)=true):=by
  intro q;rw[and_eq_true,and_eq_true] at q;have q1:((sIx items.size 0 lo:Nat):Int)=0:=eq_of_beq q.1.1;have q2:sIx items.size items.size hi - sIx items.size 0 lo=items.size:=eq_of_beq q.2;exact hw ⟨by omega,by omega⟩
 show wpAny _ _ (if (((sIx items.size 0 lo:Nat):Int)==0&&(1:Int)==1&&(sIx items.size items.size hi - sIx items.size 0 lo)==items.size)=true then _ else _) _ _ s
 rw[if_neg hno,An2]
 first
  |exact wpAny_bind (m:=Builtin.Tuple.tupleExact _) (wpAny_newObj_type (wpAny_pure ⟨_,rfl,wpAny_pure h⟩) htake)
  |exact wpAny_bind (m:=Builtin.Tuple.tupleExact _) (wpAny_newObj_type (wpAny_bind (wpAny_pure (wpAny_pure ⟨_,rfl,wpAny_pure h⟩))) htake)
  |exact wpAny_bind (wpAny_bind (m:=Builtin.Tuple.tupleExact _) (wpAny_newObj_type (wpAny_pure (wpAny_pure ⟨_,rfl,wpAny_pure h⟩)) htake))
  |exact wpAny_bind (wpAny_bind (m:=Builtin.Tuple.tupleExact _) (wpAny_newObj_type (wpAny_pure ⟨_,rfl,wpAny_pure h⟩) htake))
end
end HT
namespace L2
open PySem PySem.Spec PyProof.Rows
abbrev TO:=St->Hp->(Option Int->Hp->Prop)->Prop
def PO (X:Cx) (e:Option Expr) (t:TO):Prop:=
 ∀(aa:List (Addr×Obj)) (s:Shared) (σ:St) (H:Hp) (Q:Option Int->Hp->Prop),Inv X aa σ H s->t σ H Q->
  wpAny (model X.prog X.w) X.A (evalPart e X.env) (fun u s'=>∃o H',Inv X aa σ H' s'/\IsPart u o/\Q o H') X.xe s
def Aiz:TO:=fun _ H Q=>Q none H
def Axq (t:TE):TO:=fun σ H Q=>t σ H fun x H1=>∃i,x=.int i/\Q (some i) H1
theorem intsAre_of {ns:List Int}:∀{us:List Value},Vals (ns.map V.int) us->IntsAre us ns:=by
 induction ns with
 |nil=>intro us r;rw[map_nil] at r;cases r;exact .nil
 |cons n ns ih=>
  intro us r;rw[map_cons] at r;cases r with
  |cons r1 r2=>
   obtain⟨t,e⟩:=r1;subst e;exact .cons n t (ih r2)
section
theorem As6:PO X none Aiz:=by
 intro aa s σ H Q I h;rw[evalPart_none];exact wpAny_pure ⟨none,H,I,.none,h⟩
theorem As7 (h:PE X e te):PO X (some e) (Axq te):=by
 intro aa s σ H Q I hw;rw[evalPart_some];refine thn (h aa s σ H _ I hw) fun u s1 ⟨x,H1,I1,r1,q1⟩=>?_;obtain⟨i,rfl,q⟩:=q1;obtain⟨t,rfl⟩:=r1;exact⟨some i,H1,I1,.int i t,q⟩
def SlR (X:Cx) (r:V->Option Int->Option Int->Hp->VK->Prop):Prop:=
 ∀(aa:List (Addr×Obj)) (s:Shared) (σ:St) (H:Hp) (x:V) (v vl vu:Value) (lo hi:Option Int) (sl:Addr) (Q:VK),Inv X aa σ H s->RelV x v->s.heap.IsSliceOf sl vl vu .none->IsPart vl lo->IsPart vu hi->r x lo hi H Q->
  ∃T id,typeLookup (.type T) "__getitem__"=pure (some (.builtin id))/\s.TypeIs v T/\wpAny (model X.prog X.w) X.A (getItem v (.ref sl)) (EP X aa σ Q) X.xe s
theorem SlR.or {r r':V->Option Int->Option Int->Hp->VK->Prop} (h:SlR X r) (h':SlR X r'):SlR X (fun x lo hi H Q=>r x lo hi H Q\/r' x lo hi H Q):=by
 intro aa s σ H x v vl vu lo hi sl Q I rx hs pl pu q;rcases q with q|q
 .exact h aa s σ H x v vl vu lo hi sl Q I rx hs pl pu q
 .exact h' aa s σ H x v vl vu lo hi sl Q I rx hs pl pu q
def tSl (r:V->Option Int->Option Int->Hp->VK->Prop) (te:TE) (tl th:TO):TE:=fun σ H Q=>te σ H fun x H1=>tl σ H1 fun l H2=>th σ H2 fun u H3=>r x l u H3 Q
theorem An3 {X:Cx} {e:Expr} {te:TE} {lo hi:Option Expr} {tl th:TO} {pos p2:Pos} {r:V->Option Int->Option Int->Hp->VK->Prop} (hr:SlR X r) (he:PE X e te) (hl:PO X lo tl) (hu:PO X hi th):PE X (.Subscript e (.Slice lo hi none p2) pos) (tSl r te tl th):=by
 intro aa s σ H Q I h;refine Subscript_ (thn (he aa s σ H _ I h) fun v s1 ⟨x,H1,I1,r1,q1⟩=>?_);refine wpAny_Slice (thn (hl aa s1 σ H1 _ I1 q1) fun vl s2 ⟨l,H2,I2,pl,q2⟩=>thn (hu aa s2 σ H2 _ I2 q2) fun vu s3 ⟨u,H3,I3,pu,q3⟩=>?_);rw[evalPart_none];refine wpAny_pure ?_;have I4:Inv X aa σ H3 { s3 with heap:=s3.heap.push { cls:=.type "slice",data:=.fields #[vl,vu,.none] } }:=I3.kept (t':=s3.toks) fun b ob q=>get?_push_of_some _ q
 obtain⟨T,id,hT,ht,hg⟩:=hr aa { s3 with heap:=s3.heap.push { cls:=.type "slice",data:=.fields #[vl,vu,.none] } } σ H3 x v vl vu l u s3.heap.objs.size Q I4 r1 (Heap.IsSliceOf.new ..) pl pu q3;show wpAny (model X.prog X.w) X.A (subscriptTail e (.Slice lo hi none p2) v (.ref s3.heap.objs.size)) (EP X aa σ Q) X.xe { s3 with heap:=s3.heap.push { cls:=.type "slice",data:=.fields #[vl,vu,.none] } }
 exact tail_any (ops:=[.ref s3.heap.objs.size,v]) ht hT hg (by with_unfolding_all rfl)
def Aaa (xs:List V) (lo hi:Option Int):List V:=(xs.drop (HT.sIx xs.length 0 lo)).take (HT.sIx xs.length xs.length hi - HT.sIx xs.length 0 lo)
theorem Wg (xs:List V) (lo hi:Option Int):(Aaa xs lo hi).length<=xs.length:=by
 unfold Aaa;rw[length_take,length_drop];omega
def Bdf (K:PySem.W.Frag):V->Option Int->Option Int->Hp->VK->Prop:=fun x lo hi H Q=>∃a xs,x=.ref a/\SqT K H a xs/\
 ¬ (HT.sIx xs.length 0 lo=0/\HT.sIx xs.length xs.length hi=xs.length)/\∀p,H p=none->Q (.ref p) (upd H p (.tup (Aaa xs lo hi)))
theorem Azc:SlR X (Bdf X.K):=by
 intro aa s σ H x v vl vu lo hi sl Q I rx hs pl pu h;obtain⟨a,xs,rfl,hx,hw,q⟩:=h;cases rx;obtain⟨its,r,ht,hz⟩:=I.tuple hx;have hlen:its.toArray.size=xs.length:=by rw[size_toArray];exact r.length.symm
 refine⟨"tuple",_,PyProof.Rows.slot_tuple_getitem.lookup,ht.typeIs,?_⟩;refine HT.getItem_tuple_cut ht hs pl pu (by rw[hlen];exact hw) ?_ (by rw[hlen];exact hz)
 rw[hlen];refine⟨.ref s.heap.objs.size,_,I.laid (t':=s.toks) (o:=.tup (Aaa xs lo hi)) (fun b ob q=>get?_push_of_some _ q) (le_refl _) ?_,rfl,q _ (I.hok.fresh (le_refl _))⟩;exact⟨le_trans (Wg xs lo hi) hz,_,(r.drop (HT.sIx xs.length 0 lo)).take (HT.sIx xs.length xs.length hi - HT.sIx xs.length 0 lo),IsTup.new _ _⟩
def Axr (K:PySem.W.Frag):R2:=fun x y H Q=>∃a b xs ys,x=.ref a/\y=.ref b/\SqT K H a xs/\SqT K H b ys/\xs≠[]/\xs.length+ys.length<=sizeLine/\
 (ys=[]->Q (.ref a) H)/\(ys≠[]->∀p,H p=none->Q (.ref p) (upd H p (.tup (xs ++ ys))))
theorem Vals.nil_iff {xs:List V} {us:List Value} (r:Vals xs us):us=[] ↔ xs=[]:=by
 cases r with
 |nil=>simp
 |cons _ _=>simp
theorem As8:OpR X (binaryOp .Add) (Axr X.K):=by
 intro aa s σ H x y v u Q I rx ry h;obtain⟨a,b,xs,ys,rfl,rfl,ha,hb,hx,hz,q1,q2⟩:=h;cases rx;cases ry;obtain⟨its,r1,p1,_⟩:=I.tuple ha;obtain⟨its2,r2,p2,_⟩:=I.tuple hb;refine HT.cat_tup p1 p2 (fun z=>hx (r1.nil_iff.mp z)) (fun z=>⟨.ref a,H,I,rfl,q1 (r2.nil_iff.mp z)⟩) (fun z=>?_) (by rw[<-r1.length,<-r2.length];exact hz)
 refine⟨.ref s.heap.objs.size,_,I.laid (t':=s.toks) (o:=.tup (xs ++ ys)) (fun b ob q=>get?_push_of_some _ q) (le_refl _) ?_,rfl,q2 (fun w=>z (r2.nil_iff.mpr w)) _ (I.hok.fresh (le_refl _))⟩;exact⟨by rw[length_append];exact hz,_,r1.append r2,IsTup.new _ _⟩
end
def ixN (n:Nat) (i:Int):Option Nat:=if 0<=i then (if i < n then some i.toNat else none) else if -(n:Int)<=i then some (i+n).toNat else none
def atI {α:Type} (xs:List α) (i:Int):Option α:=(ixN xs.length i).bind fun j=>xs[j]?
theorem Ai0 {n:Nat} {i:Int} {j:Nat} (h:ixN n i=some j):seqIndex? i n=some j/\j < n/\-(n:Int)<=i/\i < n:=by
 unfold ixN at h;by_cases h0:0<=i
 .rw[if_pos h0] at h;by_cases h1:i < n
  .rw[if_pos h1] at h;have e:i.toNat=j:=Option.some.inj h;exact⟨by rw[seqIndex_of h0 h1,e],by omega,by omega,h1⟩
  .rw[if_neg h1] at h;cases h
 .rw[if_neg h0] at h;by_cases h1:-(n:Int)<=i
  .rw[if_pos h1] at h;have e:(i+n).toNat=j:=Option.some.inj h;exact⟨by rw[seqIndex_neg (by omega) h1,e],by omega,h1,by omega⟩
  .rw[if_neg h1] at h;cases h
theorem Aca {α:Type} {xs:List α} {i:Int} {v:α} (h:atI xs i=some v):∃j,seqIndex? i xs.length=some j/\xs[j]?=some v/\j < xs.length/\-(xs.length:Int)<=i/\i < xs.length:=by
 unfold atI at h;cases e:ixN xs.length i with
 |none=>rw[e] at h;cases h
 |some j=>
  rw[e] at h;obtain⟨h1,h2,h3,h4⟩:=Ai0 e;exact⟨j,h1,h,h2,h3,h4⟩
def Tz (b:Expr):Prop:=∀o i,subscripted b false o i=operate [o,i] (getItem o i)
def IxR (X:Cx) (r:R2):Prop:=
 ∀(value slice:Expr) (aa:List (Addr×Obj)) (s:Shared) (σ:St) (H:Hp) (x y:V) (v u:Value) (Q:VK),Inv X aa σ H s->RelV x v->RelV y u->r x y H Q->
  subscripted slice false v u=operate [v,u] (getItem v u)->wpAny (model X.prog X.w) X.A (subscriptTail value slice v u) (EP X aa σ Q) X.xe s
def MtR (X:Cx) (id:String) (r:V->List V->Hp->VK->Prop):Prop:=
 ∀(aa:List (Addr×Obj)) (s:Shared) (σ:St) (H:Hp) (x:V) (xs:List V) (v:Value) (us:List Value) (Q:VK),Inv X aa σ H s->RelV x v->Vals xs us->r x xs H Q->
  wpAny (model X.prog X.w) X.A (call (.builtin id) (v::us)) (EP X aa σ Q) X.xe s
section
theorem IxR.or {r r':R2} (h:IxR X r) (h':IxR X r'):IxR X (fun x y H Q=>r x y H Q\/r' x y H Q):=by
 intro value slice aa s σ H x y v u Q I rx ry q hs;rcases q with q|q
 .exact h value slice aa s σ H x y v u Q I rx ry q hs
 .exact h' value slice aa s σ H x y v u Q I rx ry q hs
theorem Bdg {r:R2} (hr:IxR X r) (ha:PE X a ta) (hb:PE X b tb) (hs:Tz b):PE X (.Subscript a b pos) (tOp r ta tb):=by
 intro aa s σ H Q I h;exact Subscript_ (Ayu ha hb I h fun v u s2 x y H2 I2 rx ry q=>hr a b aa s2 σ H2 x y v u Q I2 rx ry q (hs _ _))
def Bdh (K:PySem.W.Frag):R2:=fun x y H Q=>∃p xs i v,x=.ref p/\y=.int i/\SqL K H p xs/\atI xs i=some v/\Q v H
def Bdi (K:PySem.W.Frag):R2:=fun x y H Q=>∃p xs i v,x=.ref p/\y=.int i/\SqT K H p xs/\atI xs i=some v/\Q v H
def Bdj:R2:=fun x y H Q=>∃z i c,x=.str z/\y=.int i/\z.length<=sizeLine/\atI z.cps.toList i=some c/\Q (.str ⟨#[c]⟩) H
theorem As9:IxR X (Bdh X.K):=by
 intro value slice aa s σ H x y v u Q I rx ry h hs;obtain⟨p,xs,i,z,rfl,rfl,hq,he,q⟩:=h;cases rx;obtain⟨t,rfl⟩:=ry;obtain⟨its,r,pl,hz⟩:=I.list hq;obtain⟨j,h1,h2,h3,h4,h5⟩:=Aca he;obtain⟨w,ew,rw'⟩:=r.get h2;have hl:=r.length;have hn:=Vb;have fin:EP X aa σ Q w s:=⟨z,H,I,rw',q⟩;by_cases h0:0<=i
 .have hj:i.toNat=j:=by
   rw[seqIndex_of h0 h5] at h1;exact Option.some.inj h1
  exact item_listR pl.isList h0 (by omega) (by rw[hj];simpa using ew) fin hs
 .have hj:(i+(its.toArray.size:Int)).toNat=j:=by
   rw[seqIndex_neg (by omega) h4] at h1
   rw[size_toArray,<-hl];exact Option.some.inj h1
  exact subscriptTail_builtinR (x:=w) pl.isList.typeIs slot_list_getitem.lookup
   (wpAny_getItem_list_neg (Q:=fun r s'=>r=w/\EP X aa σ Q r s') pl.isList (by omega) (by rw[size_toArray] <;> omega) (by omega) (by rw[hj];simpa using ew) ⟨rfl,fin⟩) hs
theorem Bc:IxR X (Bdi X.K):=by
 intro value slice aa s σ H x y v u Q I rx ry h hs;obtain⟨p,xs,i,z,rfl,rfl,hq,he,q⟩:=h;cases rx;obtain⟨t,rfl⟩:=ry;obtain⟨its,r,pl,hz⟩:=I.tuple hq;obtain⟨j,h1,h2,h3,h4,h5⟩:=Aca he;obtain⟨w,ew,rw'⟩:=r.get h2;have hl:=r.length;have hn:=Vb;have fin:EP X aa σ Q w s:=⟨z,H,I,rw',q⟩;exact subscriptTail_builtinR (x:=w) pl.typeIs slot_tuple_getitem.lookup
  (getItem_tuple (j:=j) (Q:=fun r s'=>r=w/\EP X aa σ Q r s') pl (by omega) (by omega) (by rw[size_toArray,<-hl];exact h1) (by simpa using ew) ⟨rfl,fin⟩) hs
theorem Ve:IxR X Bdj:=by
 intro value slice aa s σ H x y v u Q I rx ry h hs;obtain⟨z,i,c,rfl,rfl,hz,he,q⟩:=h;obtain⟨t,rfl⟩:=rx;obtain⟨t',rfl⟩:=ry;obtain⟨j,h1,h2,h3,h4,h5⟩:=Aca he;have hl:z.cps.toList.length=z.length:=by simp[Str.length]
 rw[hl] at h1 h4 h5;have hn:=Vb;exact tail_any (typeIs_str s z t) slot_str_getitem.lookup (getItem_str (c:=c) (by
  have e1:decide (i < -(2 ^ 63:Int))=false:=decide_eq_false (by omega)
  have e2:decide (i>=2 ^ 63)=false:=decide_eq_false (by omega)
  rw[e1,e2,Bool.or_false]) (by rw[h1];simpa using h2) ⟨.str ⟨#[c]⟩,H,I.tok _,⟨_,rfl⟩,q⟩) hs
def rIx (K:PySem.W.Frag):R2:=fun x y H Q=>Bdh K x y H Q\/Bdi K x y H Q\/Bdj x y H Q
theorem Azd:IxR X (rIx X.K):=As9.or (Bc.or Ve)
theorem Acb (lo hi:Option Int) (n:Nat):(sliceBounds lo hi none n).1=((HT.sIx n 0 lo:Nat):Int)/\(sliceBounds lo hi none n).2.1=((HT.sIx n n hi:Nat):Int)/\(sliceBounds lo hi none n).2.2=1:=by
 refine⟨?_,?_,rfl⟩
 .cases lo with
  |none=>simp[sliceBounds,HT.sIx]
  |some i=>
   simp only[sliceBounds,HT.sIx,getD_none,show (1:Int) > 0 by decide,if_true]
   by_cases h:i < 0
   .simp only[h,if_true] <;> omega
   .simp only[h,if_false] <;> omega
 .cases hi with
  |none=>simp[sliceBounds,HT.sIx]
  |some i=>
   simp only[sliceBounds,HT.sIx,getD_none,show (1:Int) > 0 by decide,if_true]
   by_cases h:i < 0
   .simp only[h,if_true] <;> omega
   .simp only[h,if_false] <;> omega
theorem Aab (its:List Value) (lo hi:Option Int):slicePick its.toArray lo hi none=((its.drop (HT.sIx its.length 0 lo)).take (HT.sIx its.length its.length hi - HT.sIx its.length 0 lo)).toArray:=by
 obtain⟨h1,h2,h3⟩:=Acb lo hi its.toArray.size;unfold slicePick;rw[h1,h2,h3];simp only[sliceRange_one,pick_run,size_toArray] <;> rfl
def Bdk (K:PySem.W.Frag):V->Option Int->Option Int->Hp->VK->Prop:=fun x lo hi H Q=>∃a xs,x=.ref a/\SqL K H a xs/\∀p,H p=none->Q (.ref p) (upd H p (.lst (Aaa xs lo hi)))
theorem Ata:SlR X (Bdk X.K):=by
 intro aa s σ H x v vl vu lo hi sl Q I rx hs pl pu h;obtain⟨a,xs,rfl,hx,q⟩:=h;cases rx;obtain⟨its,r,ht,hz⟩:=I.list hx;have hlen:=r.length;refine⟨"list",_,slot_list_getitem.lookup,ht.isList.typeIs,?_⟩;refine wpAny_getItem_list_slice ht.isList hs pl pu .none (by simp) ?_ (by rw[size_toArray] <;> omega)
 rw[Aab,<-hlen];refine⟨.ref s.heap.objs.size,_,I.laid (t':=s.toks) (o:=.lst (Aaa xs lo hi)) (fun b ob q=>get?_push_of_some _ q) (le_refl _) ?_,rfl,q _ (I.hok.fresh (le_refl _))⟩;exact⟨le_trans (Wg xs lo hi) hz,_,0,(r.drop (HT.sIx xs.length 0 lo)).take (HT.sIx xs.length xs.length hi - HT.sIx xs.length 0 lo),get?_push_size _ rfl⟩
def Jv:V->Bool
 |.non=>true
 |.bl _=>true
 |.int _=>true
 |.str _=>true
 |_=>false
theorem Hh.or {f:Value} {r r':List V->Hp->VK->Prop} (h:Hh X f r) (h':Hh X f r'):Hh X f (fun xs H Q=>r xs H Q\/r' xs H Q):=by
 intro aa s σ H xs us Q I rs q;rcases q with q|q
 .exact h aa s σ H xs us Q I rs q
 .exact h' aa s σ H xs us Q I rs q
theorem Aac:Hh X (.type "tuple") (fun xs H Q=>∃p ys,xs=[.ref p]/\((SqL X.K H p ys/\∀l,H l=none->Q (.ref l) (upd H l (.tup ys)))\/(SqT X.K H p ys/\Q (.ref p) H))):=by
 intro aa s σ H xs us Q I r h;obtain⟨p,ys,rfl,h⟩:=h;obtain⟨u,rfl,rx⟩:=vals1 r;cases rx;rcases h with ⟨hq,q⟩|⟨hq,q⟩
 .obtain⟨its,r',pl,hz⟩:=I.list hq;have hlen:=r'.length;refine call_tuple_list pl.isList (fun h' kp=>?_) (by simp only[size_toArray] <;> omega)
  have I1:Inv X aa σ H { s with heap:=h' }:=I.kept (t':=s.toks) kp
  have I2:Inv X aa σ (upd H h'.objs.size (.tup ys)) { s with heap:=h'.push { cls:=.type "tuple",data:=.seq its.toArray } }:=
   I1.laid (t':=s.toks) (fun b o e=>get?_push_of_some _ e) (le_refl _) (show Dn X.prog X.w _ _ _ (.tup ys) from ⟨hz,its,r',IsTup.new _ _⟩)
  exact⟨.ref h'.objs.size,_,I2,rfl,q _ (I1.hok.fresh (le_refl _))⟩
 .obtain⟨its,r',pl,hz⟩:=I.tuple hq;exact call_tuple_same pl ⟨.ref p,H,I,rfl,q⟩
def tyV (K:PySem.W.Frag) (T:String) (x:V) (H:Hp):Prop:=match x with
 |.str _=>T="str"
 |.int _=>T="int"
 |.ref p=>(T="list"/\∃xs,SqL K H p xs)\/(T="tuple"/\∃o,K.lookup p=some o/\o.cls=.type "tuple"/\o.dict=none)\/
   (T="dict"/\((∃kvs,H p=some (.dK kvs))\/∃kvs,H p=some (.dT kvs)))\/(T="set"/\∃S n,H p=some (.set S n))
 |_=>False
theorem Aze {aa:List (Addr×Obj)} {σ:St} {H:Hp} {s:Shared} {T:String} {x:V} {v:Value} (I:Inv X aa σ H s) (r:RelV x v) (ty:tyV X.K T x H) :
  s.TypeIs v T/\∀a,v=.ref a->∃ob,s.heap.get? a=some ob/\ob.dict=none:=by
 cases x with
 |str z=>
  obtain⟨t,rfl⟩:=r;cases (show T="str" from ty);exact⟨typeIs_str s z t,fun _ e=>nomatch e⟩
 |int i=>
  obtain⟨t,rfl⟩:=r;cases (show T="int" from ty);exact⟨typeIs_int s i t,fun _ e=>nomatch e⟩
 |ref p=>
  cases r;rcases ty with ⟨rfl,xs,hq⟩|⟨rfl,o,hk,hc,hd⟩|⟨rfl,hk⟩|⟨rfl,S,n,hk⟩
  .obtain⟨its,_,pl,_⟩:=I.list hq;refine⟨pl.isList.typeIs,fun a e=>?_⟩;cases e;obtain⟨o,n,e,c,hd,_⟩:=pl;exact⟨o,e,hd⟩
  .refine⟨⟨o,I.kIn p o hk,hc⟩,fun a e=>?_⟩;cases e;exact⟨o,I.kIn _ o hk,hd⟩
  .have z:∃o,s.heap.get? p=some o/\o.ExactDict:=by
    rcases hk with ⟨kvs,hk⟩|⟨kvs,hk⟩
    .obtain⟨_,_,_,_,o,_,_,e,ex,_⟩:=I.hok p _ hk;exact⟨o,e,ex⟩
    .obtain⟨_,_,_,_,o,_,_,e,ex,_⟩:=I.hok p _ hk;exact⟨o,e,ex⟩
   obtain⟨o,e,ex⟩:=z;refine⟨⟨o,e,ex.1⟩,fun a e2=>?_⟩;cases e2;exact⟨o,e,ex.2.1⟩
  .obtain⟨o,_,_,_,e,ex,_⟩:=I.hok p _ hk;refine⟨⟨o,e,ex.1⟩,fun a e2=>?_⟩;cases e2;exact⟨o,e,ex.2.1⟩
 |_=>exact False.elim ty
def tBM (K:PySem.W.Frag) (T:String) (r:V->List V->Hp->VK->Prop) (to:TE) (t:TA):TE:=fun σ H Q=>to σ H fun x H1=>tyV K T x H1/\t σ H1 fun xs H2=>r x xs H2 Q
theorem Bdl {X:Cx} {o e:Expr} {es:List Expr} {to:TE} {t:TA} {name:Str} {ak cpos:Pos} {T id:String} {r:V->List V->Hp->VK->Prop} (pa:PlainAttrs T) (slot:Slot T name id) (hty:typeOf (.builtin id)=pure (.type "method_descriptor")) (hm:MtR X id r) (ho:PE X o to) (ha:PA X (e::es) t)
  (bf:attributeBase o name X.env (eval o X.env)=eval o X.env:=by rfl)
  (hfew:((backTo cpos (starEach (e::es) X.env)).all (fun x=>!x.1)&&(backToKw cpos (keywordEach [] X.env)).all (fun x=>x.1.isSome)
   &&decide ((e::es).length+([]:List Keyword).length+(if ([]:List Keyword).isEmpty then 0 else 1) < 30))=true:=by rfl)
  (aq:(ak.endLine==cpos.line)=true:=by rfl) (hs:starEach (e::es) X.env=(false,eval e X.env)::starEach es X.env:=by rfl) (hplain:(backTo cpos (starEach es X.env)).any (·.1)=false:=by rfl) :
  PE X (.Call (.Attribute o name ak) (e::es) [] cpos) (tBM X.K T r to t):=by
 intro aa s σ H Q I h;refine wpAny_Call_method_late bf hfew aq rfl (thn (ho aa s σ H _ I h) fun v s1 ⟨x,H1,I1,r1,ty,q1⟩=>?_);obtain⟨h1,h2⟩:=Aze I1 r1 ty;refine⟨T,id,pa,slot,hty,h1,h2,?_⟩;have hA:=ha cpos aa s1 σ H1 _ I1 q1;rw[hs] at hA ⊢
 refine Calls.callWith_builtin (by show (false||(backTo cpos (starEach es X.env)).any (·.1))=false;rw[hplain] <;> rfl) (Calls.evalArgs_plain ?_)
 exact thn hA fun us s2 ⟨vs,H2,I2,r2,q2⟩=>hm aa s2 σ H2 x vs v us Q I2 r1 r2 q2
end
def MtM (X:Cx) (id:String) (r:V->List V->Hp->VK->Prop):Prop:=
 ∀(aa:List (Addr×Obj)) (s:Shared) (σ:St) (H:Hp) (x:V) (xs:List V) (v:Value) (us:List Value) (Q:VK),Inv X aa σ H s->RelV x v->Vals xs us->r x xs H Q->
  wpAny (model X.prog X.w) X.A (call (.builtin id) (v::us)) (EP X aa σ Q) X.xe s
theorem Vals.one:∀{x:V} {us:List Value},Vals [x] us->∃u,us=[u]/\RelV x u
 |_,_,.cons r .nil=>⟨_,rfl,r⟩
theorem Vals.two {x y:V} {us:List Value} (h:Vals [x,y] us):∃u v,us=[u,v]/\RelV x u/\RelV y v:=by
 cases h with|cons r t=>cases t with|cons q t=>cases t;exact⟨_,_,rfl,r,q⟩
theorem Vals.eraseIdx:∀{xs:List V} {us:List Value} (i:Nat),Vals xs us->Vals (xs.eraseIdx i) (us.eraseIdx i)
 |_,_,_,.nil=>.nil
 |_,_,0,.cons _ t=>t
 |_,_,i+1,.cons r t=>.cons r (Vals.eraseIdx i t)
theorem Aaw {α:Type}:∀(l:List α) (i:Nat),(l.eraseIdx i).length<=l.length
 |[],_=>le_refl _
 |_::_,0=>le_succ _
 |_::r,i+1=>succ_le_succ (Aaw r i)
section
theorem Inv.lset {its its':List Value} {n:Nat} {f:Array Value->Array Value} {t':Nat} (I:Inv X aa σ H s) (hH:H l=some (.lst xs))
  (e:s.heap.get? l=some { cls:=.type "list",data:=.seq its.toArray n }) (hf:f its.toArray=its'.toArray) (hv:Vals ys its') (hz:ys.length<=sizeLine) :
  Inv X aa σ (upd H l (.lst ys)) { s with heap:=s.heap.update l (Obj.mapSeq f),toks:=t' }:=by
 have q:=PySem.IsL.update e f;rw[hf] at q;refine I.write (x:=l) (e:=l) (by rw[hH];exact trivial) (.inl rfl) (fun b' u hb hu=>(get?_update_other s.heap (Obj.mapSeq f) (Ne.symm hb)).trans hu) ⟨_,q⟩ ?_
 exact⟨hz,its',_,hv,q⟩
theorem Inv.lnew {its:List Value} {t':Nat} (I:Inv X aa σ H s) (hv:Vals ys its) (hz:ys.length<=sizeLine) :
  Inv X aa σ (upd H s.heap.objs.size (.lst ys)) { s with heap:=s.heap.push { cls:=.type "list",data:=.seq its.toArray },toks:=t' }:=
 I.laid (fun _ _ q=>get?_push_of_some _ q) (le_refl _) ⟨hz,its,0,hv,get?_push_size _ rfl⟩
theorem Inv.lstM (I:Inv X aa σ H s) (hH:H l=some (.lst xs)):xs.length<=sizeLine/\∃(its:List Value) (n:Nat),Vals xs its/\xs.length=its.length/\s.heap.get? l=some { cls:=.type "list",data:=.seq its.toArray n }:=by
 obtain⟨z,its,n,r,e⟩:=I.hok l _ hH;exact⟨z,its,n,r,r.length,e⟩
end
section
def Atb:V->List V->Hp->VK->Prop:=fun x vs H Q=>∃l xs y,x=.ref l/\vs=[y]/\H l=some (.lst xs)/\xs.length < sizeLine/\Q .non (upd H l (.lst (xs ++ [y])))
theorem Ak5:MtM X "list.append" Atb:=by
 intro aa s σ H x vs v us Q I rx rv h;obtain⟨l,xs,y,rfl,rfl,hH,hz,q⟩:=h;cases rx;obtain⟨u,rfl,ru⟩:=rv.one;obtain⟨z,its,n,r,hl,e⟩:=I.lstM hH;refine call_meets F.slot_list_append ⟨_,e,rfl⟩ F.entry_list_append (F.args_list_append_2 _ _) (PySem.list_append l its.toArray n u (by rw[size_toArray];omega)) ⟨e,?_⟩
 refine⟨.non,_,I.lset (its':=its ++ [u]) hH e (by simp) (r.append (.cons ru .nil)) ?_,rfl,q⟩
 rw[length_append,length_singleton];omega
def An4:V->List V->Hp->VK->Prop:=fun x vs H Q=>∃l xs i k y,x=.ref l/\vs=[.int i]/\H l=some (.lst xs)/\-(2 ^ 63)<=i/\i < 2 ^ 63/\seqIndex? i xs.length=some k/\xs[k]?=some y/\Q y (upd H l (.lst (xs.eraseIdx k)))
theorem An5:MtM X "list.pop" An4:=by
 intro aa s σ H x vs v us Q I rx rv h;obtain⟨l,xs,i,k,y,rfl,rfl,hH,h1,h2,hk,hy,q⟩:=h;cases rx;obtain⟨u,rfl,ru⟩:=rv.one;obtain⟨t,rfl⟩:=ru;obtain⟨z,its,n,r,hl,e⟩:=I.lstM hH;obtain⟨w,hw,rw'⟩:=r.get hy;refine call_meets F.slot_list_pop ⟨_,e,rfl⟩ F.entry_list_pop (F.args_list_pop_2 _ _)
  (MeetsSeq.list_pop_at l its.toArray n i t k w (fitsIndex_both h1 h2) (by rw[size_toArray,<-hl];exact hk) (by rw[<-getElem?_toList];exact hw) (by rw[size_toArray];omega)) ⟨e,?_⟩
 refine⟨y,_,I.lset (its':=its.eraseIdx k) hH e ?_ (r.eraseIdx k) ?_,rw',q⟩
 .show its.toArray.eraseIdxIfInBounds k=(its.eraseIdx k).toArray;rw[List.eraseIdxIfInBounds_toArray]
 .have:=Aaw xs k;omega
end
section
variable {κ:Type} [DecidableEq κ]
def Ua (kvs:List (κ×V)) (k:κ):Option V:=(kvs.find? fun kv=>decide (kv.1=k)).map (·.2)
def putK (kvs:List (κ×V)) (k:κ) (v:V):List (κ×V):=
 if (kvs.any fun kv=>decide (kv.1=k))=true then kvs.map (fun kv=>if kv.1=k then (kv.1,v) else kv) else kvs ++ [(k,v)]
theorem X6 {p:κ×V} {r:List (κ×V)} {k:κ} (e:p.1=k):Ua (p::r) k=some p.2:=by simp[Ua,find?_cons,e]
theorem X7 {p:κ×V} {r:List (κ×V)} {k:κ} (e:¬ p.1=k):Ua (p::r) k=Ua r k:=by simp[Ua,find?_cons,e]
theorem Aed (k:κ):∀kvs:List (κ×V),(kvs.any fun kv=>decide (kv.1=k))=(Ua kvs k).isSome
 |[]=>rfl
 |p::r=>by
  rw[any_cons];by_cases e:p.1=k
  .simp only[X6 e,decide_eq_true e,Bool.true_or,Option.isSome_some]
  .rw[X7 e,decide_eq_false e,Bool.false_or];exact Aed k r
theorem O1 (kvs:List (κ×V)) (k:κ) (v:V):(putK kvs k v).length<=kvs.length+1:=by
 unfold putK;split
 .rw[length_map];omega
 .rw[length_append,length_cons,length_nil];omega
theorem Oz.isSome_eq {o:Option V} {u:Option Value} (r:Oz o u):o.isSome=u.isSome:=by
 cases o with
 |none=>cases u with
  |none=>rfl
  |some _=>exact(show False from r).elim
 |some _=>cases u with
  |none=>exact(show False from r).elim
  |some _=>rfl
theorem KV.val {kvs:List (κ×V)} {vs:List (κ×Value)} (r:KV kvs vs) (k:κ):Oz (Ua kvs k) (valueAt vs k):=by
 unfold KV at r;induction r with
 |nil=>exact True.intro
 |@cons p q ps qs h t ih=>
  obtain⟨h1,h2⟩:=h;by_cases e:p.1=k
  .have e':q.1=k:=h1.symm.trans e;have b:valueAt (q::qs) k=some q.2:=by simp[valueAt,find?_cons,e']
   rw[X6 e,b];exact h2
  .have e':¬ q.1=k:=fun z=>e (h1.trans z);have b:valueAt (q::qs) k=valueAt qs k:=by simp[valueAt,find?_cons,e']
   rw[X7 e,b];exact ih
theorem KV.any {kvs:List (κ×V)} {vs:List (κ×Value)} (r:KV kvs vs) (k:κ):(kvs.any fun kv=>decide (kv.1=k))=vs.any fun kv=>decide (kv.1=k):=by
 unfold KV at r;induction r with
 |nil=>rfl
 |cons h t ih=>rw[any_cons,any_cons,ih,h.1]
theorem KV.repl {kvs:List (κ×V)} {vs:List (κ×Value)} (r:KV kvs vs) (k:κ) {y:V} {u:Value} (ry:RelV y u) :
  KV (kvs.map fun kv=>if kv.1=k then (kv.1,y) else kv) (vs.map fun kv=>if kv.1=k then (kv.1,u) else kv):=by
 unfold KV at r ⊢
 induction r with
 |nil=>exact .nil
 |@cons p q ps qs h t ih=>
  rw[map_cons,map_cons];refine .cons ?_ ih;obtain⟨h1,h2⟩:=h;by_cases e:p.1=k
  .rw[if_pos e,if_pos (h1.symm.trans e)];exact⟨h1,ry⟩
  .rw[if_neg e,if_neg (fun z=>e (h1.trans z))];exact⟨h1,h2⟩
theorem KV.put {kvs:List (κ×V)} {vs:List (κ×Value)} (r:KV kvs vs) (k:κ) {y:V} {u:Value} (ry:RelV y u):KV (putK kvs k y) (stored vs k u):=by
 unfold putK stored;rw[r.any k];by_cases e:(vs.any fun kv=>decide (kv.1=k))=true
 .rw[if_pos e,if_pos e];exact r.repl k ry
 .rw[if_neg e,if_neg e];exact Paired.snoc r ⟨rfl,ry⟩
theorem KV.length {kvs:List (κ×V)} {vs:List (κ×Value)} (r:KV kvs vs):kvs.length=vs.length:=Paired.length r
end
theorem Ai1 {P:Program} {w:World} {k:Key} {u:Value} (r:RelV (kV k) u):(Er P w).is k u=true:=by
 cases k with
 |inl i=>obtain⟨t,e⟩:=(show ∃t,u=Value.int i t from r);subst e;exact Ad7 P w i t
 |inr x=>obtain⟨t,e⟩:=(show ∃t,u=Value.str x t from r);subst e;exact Ad8 P w x t
theorem Aax {P:Program} {w:World}:∀{ks:List Key} {us:List Value},Vals (ks.map kV) us->ItemsAre (Er P w) ks us
 |[],_,r=>by rw[map_nil] at r;cases r;exact .nil
 |k::ks,_,r=>by
  rw[map_cons] at r;cases r with
  |cons h t=>exact .cons (Ai1 h) (Aax t)
abbrev KT (H:Hp):List (List Key×V)->List (List Key×Addr×Value)->Prop:=Paired fun p q=>p.1=q.1/\H q.2.1=some (.tup (p.1.map kV))/\RelV p.2 q.2.2
theorem KT.val {H:Hp} {kvs:List (List Key×V)} {xs:List (List Key×Addr×Value)} (r:KT H kvs xs) (k:List Key):Oz (Ua kvs k) ((atKey xs k).map (·.2)):=by
 induction r with
 |nil=>exact True.intro
 |@cons p q ps qs h t ih=>
  obtain⟨h1,_,h2⟩:=h;by_cases e:p.1=k
  .have e':q.1=k:=h1.symm.trans e;have b:atKey (q::qs) k=some q.2:=by simp[atKey,find?_cons,e']
   rw[X6 e,b];exact h2
  .have e':¬ q.1=k:=fun z=>e (h1.trans z);have b:atKey (q::qs) k=atKey qs k:=by simp[atKey,find?_cons,e']
   rw[X7 e,b];exact ih
theorem KT.repl {H:Hp} {kvs:List (List Key×V)} {xs:List (List Key×Addr×Value)} (r:KT H kvs xs) (k:List Key) {y:V} {u:Value} (ry:RelV y u) :
  KT H (kvs.map fun kv=>if kv.1=k then (kv.1,y) else kv) (xs.map (putAt k u)):=by
 induction r with
 |nil=>exact .nil
 |@cons p q ps qs h t ih=>
  rw[map_cons,map_cons];refine .cons ?_ ih;obtain⟨h1,h2,h3⟩:=h;unfold putAt;by_cases e:p.1=k
  .rw[if_pos e,if_pos (h1.symm.trans e)];exact⟨h1,h2,ry⟩
  .rw[if_neg e,if_neg (fun z=>e (h1.trans z))];exact⟨h1,h2,h3⟩
theorem KT.put {H:Hp} {kvs:List (List Key×V)} {xs:List (List Key×Addr×Value)} (r:KT H kvs xs) (k:List Key) {b:Addr} {y:V} {u:Value} (hb:H b=some (.tup (k.map kV))) (ry:RelV y u) :
  KT H (putK kvs k y) (storedH xs k b u):=by
 have e:(kvs.any fun kv=>decide (kv.1=k))=(atKey xs k).isSome:=by
  rw[Aed,(r.val k).isSome_eq,Option.isSome_map]
 unfold putK storedH;rw[e];by_cases q:(atKey xs k).isSome=true
 .rw[if_pos q,if_pos q];exact r.repl k ry
 .rw[if_neg q,if_neg q];exact Paired.snoc r ⟨rfl,hb,ry⟩
theorem KT.keeps {H H':Hp} {kvs:List (List Key×V)} {xs:List (List Key×Addr×Value)} (r:KT H kvs xs) (ht:∀b ys,H b=some (.tup ys)->H' b=some (.tup ys)):KT H' kvs xs:=
 Paired.mapP r fun _ _ z=>⟨z.1,ht _ _ z.2.1,z.2.2⟩
section
theorem Ms {u:HO} (ok:HOk P w H h) (e:Rd H a u):Dn P w H h a u:=e.ok ok
theorem Ai2 {kvs:List (Key×V)} (ok:HOk P w H h) (e:Rd H a (.dK kvs)):kvs.length<=sizeLine/\(a==sysModules)=false/\∃vs,KV kvs vs/\h.DictOf (Er P w) a vs:=
 show Dn P w H h a (.dK kvs) from Ms ok e
theorem Axs {kvs:List (Key×V)} (ok:HOk P w H h) (e:H a=some (.dK kvs)):kvs.length<=sizeLine/\(a==sysModules)=false/\∃vs,KV kvs vs/\h.DictOf (Er P w) a vs:=Ai2 ok (.inl e)
theorem Ag2 {ks:List Key} (ok:HOk P w H h) (e:H a=some (.tup (ks.map kV))):(tupleKind (Er P w)).is h ks a:=by
 obtain⟨_,its,r,o,h1,h2,n,h3⟩:=(show Dn P w H h a (.tup (ks.map kV)) from ok a _ e);exact⟨o,its.toArray,n,h1,h2,h3,by simpa using Aax r⟩
theorem An6 {kvs:List (List Key×V)} (ok:HOk P w H h) (e:Rd H a (.dT kvs)):kvs.length<=sizeLine/\(a==sysModules)=false/\
  ∃xs,KT H kvs xs/\h.DictOfH (tupleKind (Er P w)) a xs:=by
 obtain⟨z,y,xs,r,o,es,ep,h1,h2,h3,h4,h5⟩:=(show Dn P w H h a (.dT kvs) from Ms ok e);refine⟨z,y,xs,r,o,es,ep,h1,h2,h3,h4,fun x hx=>?_,h5⟩;have all:∀{l:List (List Key×V)} {m:List (List Key×Addr×Value)},KT H l m->∀x∈m,(tupleKind (Er P w)).is h x.1 x.2.1:=by
  intro l m q;induction q with
  |nil=>intro x hx;exact nomatch hx
  |@cons p q ps qs hq t ih=>
   intro x hx;rcases mem_cons.mp hx with e|hx
   .subst e;exact Ag2 ok (by rw[<-hq.1];exact hq.2.1)
   .exact ih x hx
 exact all r x hx
theorem Bdm {kvs:List (List Key×V)} (ok:HOk P w H h) (e:H a=some (.dT kvs)):kvs.length<=sizeLine/\(a==sysModules)=false/\
  ∃xs,KT H kvs xs/\h.DictOfH (tupleKind (Er P w)) a xs:=An6 ok (.inl e)
end
def Ag3 (H:Hp) (a:Addr) (y:V) (r:Option V):Prop:=
 (∃kvs k,Rd H a (.dK kvs)/\y=kV k/\r=Ua kvs k)\/∃kvs k b,Rd H a (.dT kvs)/\y=.ref b/\H b=some (.tup (k.map kV))/\r=Ua kvs k
def Ak6 (H:Hp) (a:Addr) (y v:V) (H':Hp):Prop:=
 (∃kvs k,H a=some (.dK kvs)/\y=kV k/\kvs.length < sizeLine/\H'=upd H a (.dK (putK kvs k v)))\/
 ∃kvs k b,H a=some (.dT kvs)/\y=.ref b/\H b=some (.tup (k.map kV))/\kvs.length < sizeLine/\H'=upd H a (.dT (putK kvs k v))
theorem Ag3.k {H:Hp} {a:Addr} {kvs:List (Key×V)} {k:Key} (e:H a=some (.dK kvs)):Ag3 H a (kV k) (Ua kvs k):=.inl ⟨kvs,k,.inl e,rfl,rfl⟩
theorem Ak6.k {H:Hp} {a:Addr} {kvs:List (Key×V)} {k:Key} {v:V} (e:H a=some (.dK kvs)) (hl:kvs.length < sizeLine):Ak6 H a (kV k) v (upd H a (.dK (putK kvs k v))):=.inl ⟨kvs,k,e,rfl,hl,rfl⟩
section
theorem Inv.big (I:Inv X aa σ H s):sysModules < s.heap.objs.size:=by
 have h:mainGlobals < s.heap.objs.size:=(I.mod.glob.keeps I.bk).lt;exact Nat.lt_trans (by decide) h
theorem Ak7 {Q:Value->Shared->Prop} (hu:A.units+1 < cLine) (I:Inv X aa σ H s) (g:Ag3 H a y (some v)) (ry:RelV y u) (h:∀w' s',Inv X aa σ H s'->RelV v w'->Q w' s') :
  wpAny (model X.prog X.w) A (getItem (.ref a) u) Q E s:=by
 rcases g with ⟨kvs,k,e,ey,l⟩|⟨kvs,k,b,e,ey,eb,l⟩
 .subst ey;obtain⟨z,hd,vs,rel,dd⟩:=Ai2 I.hok e;obtain⟨w',hw,rw'⟩:=Oz.some_of (v:=v) (o:=valueAt vs k) (by rw[l];exact rel.val k)
  exact wpAny_getItem_of (Ai1 ry) dd.mapOf hw (h w' _ (I.tok _) rw')
 .subst ey;cases (show u=Value.ref b from ry);obtain⟨z,hd,xs,rel,dd⟩:=An6 I.hok e;obtain⟨w',hw,rw'⟩:=Oz.some_of (v:=v) (o:=(atKey xs k).map (·.2)) (by rw[l];exact rel.val k)
  obtain⟨p,hp,hp2⟩:=map_eq_some_iff.mp hw;refine wpAny_getItem_heap (tupleKind_room_in1 hu) (Ag2 I.hok eb) dd hp ?_;rw[hp2];exact h w' _ (I.tok _) rw'
theorem Acd {h':Heap} {t':Nat} {ob:HO} (I:Inv X aa σ H s) (mu:Mut (H a)) (hs:SameBut a s.heap h') (he:∃q,h'.get? a=some q) (new:Dn X.prog X.w (upd H a ob) h' a ob) :
  Inv X aa σ (upd H a ob) { s with heap:=h',toks:=t' }:=
 I.write (x:=a) (e:=a) mu (.inl rfl) (fun b q hb z=>(hs.2 b hb).trans z) he new
theorem An7 {P:Program} {w:World} {H':Hp} {h':Heap} {kvs:List (Key×V)} {vs:List (Key×Value)} (z:kvs.length<=sizeLine) (hd:(a==sysModules)=false) (rel:KV kvs vs) (dd:h'.DictOf (Er P w) a vs) :
  Dn P w H' h' a (.dK kvs):=⟨z,hd,vs,rel,dd⟩
theorem Ak8 {H':Hp} {Q:Unit->Shared->Prop} (hu:A.units+1 < cLine) (I:Inv X aa σ H s) (g:Ak6 H a y v H') (ry:RelV y u) (rv:RelV v r) (h:∀s',Inv X aa σ H' s'->Q () s') :
  wpAny (model X.prog X.w) A (setItem (.ref a) u r) Q E s:=by
 rcases g with ⟨kvs,k,e,ey,l,eH⟩|⟨kvs,k,b,e,ey,eb,l,eH⟩
 .subst ey eH;obtain⟨z,hd,vs,rel,dd⟩:=Axs I.hok e;have hz:vs.length<=sizeLine:=by rw[<-rel.length];exact z
  have hl:(putK kvs k v).length<=sizeLine:=by have:=O1 kvs k v;omega
  refine wpAny_setItem_pairs (hsz:=hz) (Ai1 ry) dd fun h' dd' hs=>h _ ?_;have he:∃q,h'.get? a=some q:=let ⟨q,_,_,hq,_⟩:=dd';⟨q,hq⟩;exact Acd I (by rw[e];exact True.intro) hs he (An7 hl hd (rel.put k rv) dd')
 .subst ey eH;cases (show u=Value.ref b from ry);obtain⟨z,hd,xs,rel,dd⟩:=Bdm I.hok e;have hz:xs.length<=sizeLine:=by rw[<-Paired.length rel];exact z
  have hl:(putK kvs k v).length<=sizeLine:=by have:=O1 kvs k v;omega
  refine wpAny_setItem_heap (hsz:=hz) (tupleKind_room_in1 hu) (Ag2 I.hok eb) dd fun h' dd' hs=>h _ ?_;obtain⟨q,es,ep,hq,h2,h3,h4,_,h5⟩:=dd';refine Acd I (by rw[e];exact True.intro) hs ⟨q,hq⟩ ⟨hl,hd,_,(rel.put k eb rv).keeps fun c ys ec=>?_,q,es,ep,hq,h2,h3,h4,h5⟩
  rw[Ax (Bcn ec e (fun z=>nomatch z))];exact ec
end
section
theorem Bdn {Q:Value->Shared->Prop} (I:Inv X aa σ H s) (e:Rd H a (.dK kvs)) (h:∀t s',Inv X aa σ H s'->Q (.int kvs.length t) s'):wpAny (model X.prog X.w) A (call (.builtin "len") [.ref a]) Q E s:=by
 obtain⟨z,hd,vs,rel,dd⟩:=Ai2 I.hok e;refine call_len_dict hd dd (by rw[<-rel.length];rw[sizeLine_eq] at z;omega) ?_
 rw[<-rel.length];exact h _ _ (I.tok _)
end
theorem Aee {X:Cx} {aa:List (Addr×Obj)} {σ:St} {H:Hp} {s:Shared} {a:Addr} {y:V} {o:Option V} (I:Inv X aa σ H s) (g:Ag3 H a y o):s.TypeIs (.ref a) "dict":=by
 rcases g with ⟨kvs,k,e,_,_⟩|⟨kvs,k,b,e,_,_,_⟩
 .obtain⟨_,_,vs,_,dd⟩:=Ai2 I.hok e;exact dd.typeIs
 .obtain⟨_,_,xs,_,dd⟩:=An6 I.hok e;exact dd.typeIs
def Axt (td ty tv:TE):TS:=fun D σ H=>tv σ H fun v H1=>td σ H1 fun x H2=>ty σ H2 fun y H3=>∃a H4,x=.ref a/\Ak6 H3 a y v H4/\D.nx σ H4
section
theorem Atc (hu:X.A.units+1 < cLine) (ho:PE X o td) (hi:PE X i ty) (hv:PE X value tv) (hs:swapsWith value (some (.Subscript o i pos')) pos.line X.env=pure false) :
  PS X (.Assign [.Subscript o i pos'] value pos) (Axt td ty tv):=by
 intro aa s σ H D I h;refine wpAny_Assign_Subscript (thn (hv aa s σ H _ I h) fun r s1 ⟨v,H1,I1,rv,q1⟩=>thn (ho aa s1 σ H1 _ I1 q1) fun u s2 ⟨x,H2,I2,rx,q2⟩=>thn (hi aa s2 σ H2 _ I2 q2) fun iv s3 ⟨y,H3,I3,ry,a,H4,ex,g,q3⟩=>?_) hs;subst ex;obtain rfl:u=Value.ref a:=rx;exact Ak8 hu I3 g ry rv fun s4 I4=>⟨σ,H4,I4,q3⟩
end
theorem Aef {P:Program} {w:World} {H:Hp} (h:Heap) (hb:sysModules < h.objs.size):Dn P w H (h.push { cls:=.type "dict",data:=.dict #[] }) h.objs.size (.dK []):=
 ⟨zero_le _,beq_eq_false_iff_ne.mpr (Ne.symm (ne_of_lt hb)),[],.nil,Heap.DictOf.new h⟩
def Azf:TE:=fun _ H Q=>∀p,H p=none->Q (.ref p) (upd H p (.dK []))
section
theorem An8:PE X (.Dict [] [] pos) Azf:=fun aa s σ H Q I h=>
 wpAny_Dict_empty ⟨.ref s.heap.objs.size,_,I.laid (a:=s.heap.objs.size) (o:=.dK []) (t':=s.toks) (fun _ _ q=>get?_push_of_some _ q) (le_refl _) (Aef s.heap I.big),rfl,h _ (I.hok.fresh (le_refl _))⟩
end
def Ace:List (TE×TE)->St->Hp->(List (V×V)->Hp->Prop)->Prop
 |[],_,H,Q=>Q [] H
 |(tk,tv)::r,σ,H,Q=>tk σ H fun x H1=>tv σ H1 fun y H2=>Ace r σ H2 fun ps H3=>Q ((x,y)::ps) H3
abbrev VV:List (V×V)->List (Value×Value)->Prop:=Paired fun p q=>RelV p.1 q.1/\RelV p.2 q.2
def PPs (X:Cx) (pos:Pos) (keys:List (Option Expr)) (values:List Expr) (trs:List (TE×TE)):Prop:=
 ∀(aa:List (Addr×Obj)) (s:Shared) (σ:St) (H:Hp) (Q:List (V×V)->Hp->Prop),Inv X aa σ H s->Ace trs σ H Q->
  wpAny (model X.prog X.w) X.A (evalPairs (pairTrees keys values X.env pos)) (fun vs s'=>∃ps H',Inv X aa σ H' s'/\VV ps vs/\Q ps H') X.xe s
theorem Atd {X:Cx} {pos:Pos}:PPs X pos [] [] []:=fun aa s σ H Q I h=>pairTrees_nil_walk ⟨[],H,I,.nil,h⟩
theorem An9 {X:Cx} {pos:Pos} {k v:Expr} {ks:List (Option Expr)} {vs:List Expr} {tk tv:TE} {trs:List (TE×TE)} (hk:PE X k tk) (hv:PE X v tv) (hr:PPs X pos ks vs trs) :
  PPs X pos (some k::ks) (v::vs) ((tk,tv)::trs):=fun aa s σ H Q I h=>
 pairTrees_cons_walk (thn (hk aa s σ H _ I h) fun u s1 ⟨x,H1,I1,rx,q1⟩=>thn (hv aa s1 σ H1 _ I1 q1) fun w2 s2 ⟨y,H2,I2,ry,q2⟩=>
  thn (hr aa s2 σ H2 _ I2 q2) fun ws s3 ⟨ps,H3,I3,rel,q3⟩=>⟨(x,y)::ps,H3,I3,.cons ⟨rx,ry⟩ rel,q3⟩)
def Kh (kvs more:List (Key×V)):List (Key×V):=more.foldl (fun acc kv=>putK acc kv.1 kv.2) kvs
theorem KV.merge:∀{more:List (Key×V)} {rs:List (Key×Value)} {kvs:List (Key×V)} {vs:List (Key×Value)},KV more rs->KV kvs vs->KV (Kh kvs more) (merged vs rs):=by
 intro more rs kvs vs r;unfold KV at r;induction r generalizing kvs vs with
 |nil=>intro q;exact q
 |@cons p q ps qs h t ih=>
  intro r0;have e:KV (putK kvs p.1 p.2) (stored vs q.1 q.2):=by
   have:=r0.put p.1 h.2;rw[<-h.1];exact this
  exact ih e
theorem Rw:∀(more kvs:List (Key×V)),(Kh kvs more).length<=kvs.length+more.length
 |[],kvs=>by show kvs.length<=kvs.length+0;omega
 |p::r,kvs=>by
  have h1:=Rw r (putK kvs p.1 p.2);have h2:=O1 kvs p.1 p.2;show (Kh (putK kvs p.1 p.2) r).length<=_;rw[length_cons];omega
theorem X8 {P:Program} {w:World}:∀{kvs:List (Key×V)} {ws:List (Value×Value)},VV (kvs.map fun kv=>(kV kv.1,kv.2)) ws->∃rs,Carries (Er P w) ws rs/\KV kvs rs
 |[],_,r=>by rw[map_nil] at r;cases r;exact⟨[],True.intro,.nil⟩
 |p::kvs,_,r=>by
  rw[map_cons] at r;cases r with
  |@cons a b as bs h t=>
   obtain⟨rs,c,q⟩:=X8 (P:=P) (w:=w) t;obtain⟨b1,b2⟩:=b;exact⟨(p.1,b2)::rs,⟨Ai1 h.1,rfl,c⟩,.cons ⟨rfl,h.2⟩ q⟩
def Bdo (trs:List (TE×TE)):TE:=fun σ H Q=>∀p,H p=none->Ace trs σ (upd H p (.dK [])) fun ps H2=>H2 p=some (.dK [])/\∃kvs:List (Key×V),ps=kvs.map (fun kv=>(kV kv.1,kv.2))/\kvs.length<=15/\Q (.ref p) (upd H2 p (.dK (Kh [] kvs)))
theorem Ate {X:Cx} {pos:Pos} {keys:List (Option Expr)} {values:List Expr} {trs:List (TE×TE)} (h:PPs X pos keys values trs) (hall:keys.all (·.isSome)=true) (hl:keys.length=values.length) (h0:keys≠[])
  (h15:keys.length<=15):PE X (.Dict keys values pos) (Bdo trs):=by
 intro aa s σ H Q I q;have hn:=I.hok.fresh (le_refl s.heap.objs.size);have I1:=I.laid (a:=s.heap.objs.size) (o:=.dK []) (h':=s.heap.push { cls:=.type "dict",data:=.dict #[] }) (t':=s.toks) (fun _ _ q=>get?_push_of_some _ q) (le_refl _) (Aef s.heap I.big);refine wpAny_Dict_walk (knd:=Er X.prog X.w) hall hl h0 h15 (thn (h aa _ σ _ _ I1 (q _ hn)) fun ws s2 ⟨ps,H2,I2,rel,e,kvs,ep,lk,q2⟩=>?_);subst ep;obtain⟨rs,c,rk⟩:=X8 (P:=X.prog) (w:=X.w) rel;obtain⟨z,hd,vs0,r0,dd⟩:=Axs I2.hok e;cases r0;refine⟨rs,c,dd,fun h' dd' hs=>⟨.ref s.heap.objs.size,_,?_,rfl,q2⟩⟩;have hz:(Kh [] kvs).length<=sizeLine:=by
  have h1:=Rw kvs [];rw[length_nil] at h1;rw[sizeLine_eq];omega
 have he:∃q,h'.get? s.heap.objs.size=some q:=let ⟨q,_,_,hq,_⟩:=dd';⟨q,hq⟩;exact Acd I2 (by rw[e];exact True.intro) hs he (An7 hz hd (rk.merge .nil) dd')
structure M1 (X:Cx) (o:Expr) (m:Str) (ak:Pos) (e:Expr) (cpos:Pos):Prop where
 base:attributeBase o m X.env (eval o X.env)=eval o X.env
 few:((backTo cpos (starEach [e] X.env)).all (fun x=>!x.1)&&(backToKw cpos (keywordEach [] X.env)).all (fun x=>x.1.isSome)
  &&decide (([e]:List Expr).length+([]:List Keyword).length+(if ([]:List Keyword).isEmpty then 0 else 1) < 30))=true
 line:(ak.endLine==cpos.line)=true
 trees:backTo cpos (starEach [e] X.env)=[(false,eval e X.env)]
structure M2 (X:Cx) (o:Expr) (m:Str) (ak:Pos) (e f:Expr) (cpos:Pos):Prop where
 base:attributeBase o m X.env (eval o X.env)=eval o X.env
 few:((backTo cpos (starEach [e,f] X.env)).all (fun x=>!x.1)&&(backToKw cpos (keywordEach [] X.env)).all (fun x=>x.1.isSome)
  &&decide (([e,f]:List Expr).length+([]:List Keyword).length+(if ([]:List Keyword).isEmpty then 0 else 1) < 30))=true
 line:(ak.endLine==cpos.line)=true
 trees:backTo cpos (starEach [e,f] X.env)=[(false,eval e X.env),(false,eval f X.env)]
end L2
namespace Att
open PySem PySem.W PySem.Calls PyProof.Rows
theorem W7 {P:Params} {h:Heap}:∀(ns:List Int) (vs:List Value),WellAll P h vs (ns.map WData.int)->IntsAre vs ns:=by
 intro ns;induction ns with
 |nil=>
  intro vs w;rw[map_nil] at w;cases w;exact .nil
 |cons n ns ih=>
  intro vs w;rw[map_cons] at w;cases w with
  |cons a b=>
   cases a;exact .cons _ _ (ih _ b)
theorem Ak9 {l:OpenLaw} {n:Nat} (hn:l.most=some n) {P:Params} {h:Heap} {args:List WData} {vals:List Value}
  (hpre:l.row.toRowW.claim.pre args=true) (hwl:WellAll P h vals args) :
  ∃a vs ns,vals=[Value.ref a]/\args=[WData.list (ns.map WData.int)]/\h.get? a=some { cls:=.type "list",data:=.seq vs.toArray }/\IntsAre vs ns/\ns.length<=n:=by
 have hsh:WShape.hasAll [] args [.list .int]=true:=(pre_splitW hpre).1;have hc:l.pre.holds [] { args:=args }=true:=(pre_splitW hpre).2;obtain⟨d,r,rfl,h1,h2⟩:=hasAllW_cons hsh;obtain rfl:=hasAllW_nil h2;obtain⟨xs,rfl,h3⟩:=hasW_list h1;obtain⟨ns,rfl⟩:=items_int h3;have hlen:ns.length<=n:=by
  unfold OpenLaw.pre at hc;have h4:(WTm.not (.lt (.lit (.int (n:Int))) (.len (.arg 0)))).holds [] { args:=[.list (ns.map .int)] }=true:=by
   have h4:=(holds_andW hc).1;rw[hn] at h4;exact h4
  have h5:=condW_of h4 (w_not (w_lt w_lit (w_len_list (w_arg rfl))));rw[length_map] at h5;refine Nat.le_of_not_lt fun q=>?_;have q':(n:Int) < ((ns.length:Nat):Int):=by omega
  first
   |(rw[decide_eq_true q'] at h5;exact absurd h5 (by decide))
   |(simp at h5;omega)
 cases hwl with
 |cons w1 w2=>
  cases w2;cases w1 with
  |list ho hall=>exact⟨_,_,ns,rfl,rfl,ho,W7 ns _ hall,hlen⟩
theorem Ala (l:OpenLaw) (args:List WData):l.row.toRowW.claim.post args (.bool true) args=true:=
 postW_of (r:=l.row.toRowW) (X:=(true==true))
  (show WShape.has [] (.bool true) .bool=true by first|rfl|decide|simp[WShape.has,WShape.arms,WShape.armsAll])
  (show (WTm.eq .res (.lit (.bool true))).value [] { args:=args,res:=some (.bool true),after:=args }=some (.bool (true==true)) from w_eq_bool (w_res rfl) w_lit) rfl
theorem attach_call {l:OpenLaw} {n:Nat} {q:Program} {loose:List Str} {XP:(Str->Option Value)->Heap->Prop} {YP:World->Heap->Prop} {d:DefRec}
  (hn:l.most=some n) (hdf:d.params.defaults=[])
  (call:∀(w:World) (s₀ s₁:Shared) (mg mb:Str->Option Value) (fa:Addr) (o:Obj) (pm cd doc:Value) (a:Addr) (vs:List Value) (ns:List Int),
   Ground q loose [] XP w s₀ mg mb s₁.heap->YP w s₁.heap->
   s₁.heap.get? fa=some o->o.data=.func (docDef d.name d.params d.body d.scope pm cd doc)->s₁.heap.CodeRec cd d.name->mg d.name=some (.ref fa)->
   s₁.heap.get? a=some { cls:=.type "list",data:=.seq vs.toArray }->IntsAre vs ns->ns.length<=n->s₁.gens=#[]->
   codeAny (model l.prog w) callerA (.call (.ref fa) ⟨[.ref a],[]⟩) (fun r s'=>r=.ok (.ret (.bool true))/\OldK s₁.heap s'.heap/\s'.os=s₁.os/\AllBare s'.gens) s₁) :
  WalkO q loose XP YP l.row.toRowW d [] (fun f vs=>PySem.call f vs):=by
 intro w s₀ s₁ mg mb G Y fa o pm cd doc dV kV ho hd hcd hD hmg hg args vals as hpre hlay hrd hwl hlo;obtain rfl:dV=.none:=Dflts.none hD hdf;obtain rfl:kV=.none:=Dflts.noKw hD;obtain⟨a,vs,ns,rfl,rfl,hobj,hints,hlen⟩:=Ak9 hn hpre hwl;refine enter_call (codeAny_mono (call w s₀ s₁ mg mb fa o pm cd doc a vs ns G Y ho (fd_plain hd) hcd hmg hobj hints hlen hg) fun r s' hq=>?_);obtain⟨rfl,h2,h3,h4⟩:=hq;exact⟨.inl ⟨.bool true,.bool true,[],rfl,fun _=>rfl,.bool true,Ala l _,fun _=>⟨List.Pairwise.nil,fun _ hm=>(nomatch hm)⟩⟩,h2,h3,h4⟩
section
def ledger (h:Heap) (L d:Addr):List (Addr×Obj):=(List.range h.objs.size).filterMap fun a=>if a=L\/a=d then none else (h.get? a).map fun o=>(a,o)
end
end Att
namespace L2
open PySem PySem.Spec PyProof.Rows
theorem Aay:∀{vs:List Value} {ns:List Int},IntsAre vs ns->Vals (ns.map V.int) vs
 |_,_,.nil=>.nil
 |_,_,.cons n t h=>.cons ⟨t,rfl⟩ (Aay h)
def Only (H:Hp):Prop:=∀b,H b=none\/∃o xs,H b=some (.frz o (.lst xs))
theorem Aoa {P:Program} {w:World} {K:PySem.W.Frag} {mg mb:Str->Option Value} {CX:CXT} {k:Nat} {fa a:Addr} {fd:FuncData} {x:Str} {sp:Sp} {s₁:Shared} {vs:List Value} {ns:List Int}
  (KX:K.In s₁.heap) (hns:s₁.heap.Ns mainGlobals mg) (hb:s₁.heap.Ns builtinsNs mb) (hbb:∀x:Str,x≠"__name__"->mb x=bootBuiltins x) (hlim:s₁.heap.NoLimit) (hg:s₁.gens=#[])
  (ha:s₁.heap.get? a=some { cls:=.type "list",data:=.seq vs.toArray }) (hi:IntsAre vs ns) (hl:ns.length<=sizeLine) (hr:Hc k callerA)
  (F:∀base:Heap,K.In base->base.Ns mainGlobals mg->Gw P w K mg base CX k fa fd [x] sp) (hbind:∀(s:Shared) (u:Value),BindsTo s fd ⟨[u],[]⟩ [(x,u)])
  (hsp:∀H:Hp,Only H->SqL K H a (ns.map V.int)->sp [.ref a] H (fun v _=>v=.bl true) fun _ _ _=>False)
  (hCX:∀H e s',CX [] H s₁ (fun _ _ _=>False) e s'->False) :
  codeAny (model P w) callerA (.call (.ref fa) ⟨[.ref a],[]⟩) (fun r s'=>r=.ok (.ret (.bool true))/\OldK s₁.heap s'.heap/\s'.os=s₁.os/\AllBare s'.gens) s₁:=by
 have rv:=Aay hi;have lenV:=hi.length;have core:∀H:Hp,Only H->SqL K H a (ns.map V.int)->HOk P w H s₁.heap->(∀b,H b≠none->b=a)->(H a≠none->K.lookup a=none)->
   codeAny (model P w) callerA (.call (.ref fa) ⟨[.ref a],[]⟩) (fun r s'=>r=.ok (.ret (.bool true))/\OldK s₁.heap s'.heap/\s'.os=s₁.os/\AllBare s'.gens) s₁:=by
  intro H hO hS hok hA hK;have base_of:∀{b:Addr} {o:Obj},s₁.heap.get? b=some o->H b=none->(Ab9 s₁.heap H).get? b=some o:=fun e n=>Anm e n;have noA:∀{b:Addr} {o:Obj} {es:Array DictEntry} {ep:Nat},s₁.heap.get? b=some o->o.data=.dict es ep->H b=none:=fun {b o es ep} e d=>by
   cases q:H b with
   |none=>rfl
   |some u=>
    have e':b=a:=hA b (by rw[q];simp)
    subst e';rw[ha] at e;cases e;have d':Data.seq vs.toArray _=Data.dict es ep:=d;cases d'
  have nsK:∀{b:Addr} {m:Str->Option Value},s₁.heap.Ns b m->(Ab9 s₁.heap H).Ns b m:=fun {b m} ⟨o,es,ep,e,d,r⟩=>⟨o,es,ep,base_of e (noA e d),d,r⟩;have hKb:K.In (Ab9 s₁.heap H):=fun b o e=>base_of (KX b o e) (by
   cases q:H b with
   |none=>rfl
   |some u=>
    have e':b=a:=hA b (by rw[q];simp)
    subst e';rw[hK (by rw[q];simp)] at e;cases e)
  have hM:Mod K mg (Ab9 s₁.heap H):=⟨hKb,nsK hns,⟨mb,nsK hb,hbb⟩,let ⟨mc,h1,h2⟩:=hlim;⟨mc,nsK h1,h2⟩⟩;have e0:Agz P w K mg (Ab9 s₁.heap H) callerA [] s₁ H:=⟨rfl,hM,fun b o e=>Asl e,le_of_eq (Akt _ _),trivial,fun b hb=>absurd (show b∈([]:List Addr) from hb) (by simp),hok,.of_eq hg⟩
  refine codeAny_mono ((F _ hKb (nsK hns)).run callerA [] s₁ H ⟨[.ref a],[]⟩ [.ref a] [.ref a] _ _ hr e0 (hbind s₁ (.ref a)) (.cons rfl .nil) (hsp H hO hS)) fun r s' h=>?_;cases r with
  |error e=>exact(hCX H e s' h).elim
  |ok fl=>
   cases fl with
   |next=>exact False.elim h
   |brk=>exact False.elim h
   |cont=>exact False.elim h
   |ret u=>
    obtain⟨v,H',os,bare,un,hok',r',q⟩:=h;have q':v=.bl true:=q;subst q';obtain rfl:u=Value.bool true:=r';refine⟨rfl,OldK.of_keep fun b o e=>?_,os,bare⟩;cases q:H b with
    |none=>exact un.keep b o e q (by intro z;exact absurd (show b∈([]:List Addr) from z) (by simp)) (by simp)
    |some u=>
     rcases hO b with z|⟨ob,xs,z⟩
     .rw[q] at z;cases z
     .have z2:=un.frzs b ob _ z;obtain⟨e1,_⟩:=hok b _ z;obtain⟨e2,_⟩:=hok' b _ z2;rw[e] at e1;cases e1;exact e2
 cases hk:K.lookup a with
 |some o=>
  have e:=KX a o hk;rw[ha] at e;cases e;refine core (fun _=>none) (fun _=>.inl rfl) (.inr ⟨_,vs.toArray,_,hk,rfl,rfl,rfl,by rw[size_toArray,lenV];exact hl,by simpa using rv⟩) (fun b u z=>by have z':(none:Option HO)=some u:=z;cases z') (fun b z=>absurd rfl z) fun z=>absurd rfl z
 |none=>
  refine core (fun b=>if b=a then some (.frz { cls:=.type "list",data:=.seq vs.toArray } (.lst (ns.map V.int))) else none) (fun b=>?_) (.inl (.inr ⟨{ cls:=.type "list",data:=.seq vs.toArray },if_pos rfl⟩)) (fun b u z=>?_) (fun b z=>?_) fun _=>hk
  .by_cases hb:b=a
   .exact .inr ⟨_,_,if_pos hb⟩
   .exact .inl (if_neg hb)
  .by_cases hb:b=a
   .have z':=(if_pos hb).symm.trans z;cases z';subst hb;exact⟨ha,by rw[length_map];exact hl,vs,_,rv,ha⟩
   .have z':=(if_neg hb).symm.trans z;cases z'
  .by_cases hb:b=a
   .exact hb
   .exact absurd (if_neg hb) z
theorem Atf {l:PySem.W.OpenLaw} {n k:Nat} {q:Program} {loose:List Str} {XP:(Str->Option Value)->Heap->Prop} {YP:World->Heap->Prop} {d:DefRec} {K:Params->PySem.W.Frag} {CX:World->CXT} {sp:World->Sp} {x:Str}
  (hn:l.most=some n) (hn2:n<=sizeLine) (hdf:d.params.defaults=[]) (hr:Hc k callerA)
  (hY:∀(w:World) (h:Heap),YP w h->(K w.params).In h)
  (F:∀(w:World) (mg:Str->Option Value) (fa:Addr) (h:Heap),(K w.params).In h->h.Ns mainGlobals mg->mg d.name=some (.ref fa)->
   ∃fd:FuncData,(∀(s:Shared) (u:Value),BindsTo s fd ⟨[u],[]⟩ [(x,u)])/\
    ∀base:Heap,(K w.params).In base->base.Ns mainGlobals mg->Gw l.prog w (K w.params) mg base (CX w) k fa fd [x] (sp w))
  (hsp:∀(w:World) (H:Hp) (a:Addr) (ns:List Int),ns.length<=n->Only H->SqL (K w.params) H a (ns.map V.int)->sp w [.ref a] H (fun v _=>v=.bl true) fun _ _ _=>False)
  (hCX:∀(w:World) (H:Hp) (s:Shared) (e:Value) (s':Shared),CX w [] H s (fun _ _ _=>False) e s'->False) :
  PySem.W.WalkO q loose XP YP l.row.toRowW d [] (fun f vs=>PySem.call f vs):=by
 refine Att.attach_call hn hdf fun w s₀ s₁ mg mb fa o pm cd doc a vs ns G Y ho hd hcd hmg hobj hints hlen hg=>?_;have KX:=hY w _ Y;obtain⟨fd,hb,hF⟩:=F w mg fa _ KX G.T.g hmg;exact Aoa KX G.T.g G.T.b G.T.builtins G.T.nolimit hg hobj hints (le_trans hlen hn2) hr hF hb (fun H hO hS=>hsp w H a ns hlen hO hS) fun H e s'=>hCX w H s₁ e s'
def inClass (s:Stmt) (j:Nat):Stmt:=match s with
 |.ClassDef _ _ _ body _ _ _ _ _ _ _=>body.getD j (.Pass ⟨0,0,0,0⟩)
 |_=>.Pass ⟨0,0,0,0⟩
def Dt (s:Stmt):Arguments:=match s with
 |.FunctionDef _ a _ _ _ _ _ _ _ _=>a
 |_=>{ posonlyargs:=[],args:=[],vararg:=none,kwonlyargs:=[],kw_defaults:=[],kwarg:=none,defaults:=[] }
def Aq (s:Stmt):List Stmt:=match s with
 |.FunctionDef _ _ b _ _ _ _ _ _ _=>b
 |_=>[]
def Ak (s:Stmt):Scope:=match s with
 |.FunctionDef _ _ _ _ _ _ sc _ _ _=>sc
 |_=>{ kind:=.function,names:=[],isGenerator:=false,isCoroutine:=false }
abbrev E0:XK:=fun _ _ _=>False
structure Fun (K:PySem.W.Frag) (x aj:Str) (st:Stmt) (f:Addr) (fd:FuncData):Prop where
 ex:∃(oc:Value) (od:Option Addr) (dV kV doc pm:Value) (an:Option Addr) (cdv ct:Value) (osl:Array (Option Value)),
  fd=fnOf x aj (Dt st) (Aq st) (Ak st) dV kV doc pm an cdv ct/\K.lookup f=some ⟨oc,od,.func fd,osl⟩/\codeIn K cdv aj=true
 kp:keepIn K (.ref f)=true
section
theorem Yb {K:PySem.W.Frag} {x aj:Str} {st:Stmt} {ps:List Str} {an:Option Addr} {kV doc pm cdv ct:Value}
  (h:∀us:List Value,us.length=ps.length->bindArgs (fnOf x aj (Dt st) (Aq st) (Ak st) .none kV doc pm an cdv ct) ⟨us,[]⟩=pure (ps.zip us)):Binds K (fnOf x aj (Dt st) (Aq st) (Ak st) .none kV doc pm an cdv ct) ps []:=.all h
theorem Acf {K:PySem.W.Frag} {x aj:Str} {st:Stmt} {f:Addr} {oc:Value} {od an:Option Addr} {osl:Array (Option Value)} {dV kV doc pm cdv ct:Value} (l:K.lookup f=some ⟨oc,od,.func (fnOf x aj (Dt st) (Aq st) (Ak st) dV kV doc pm an cdv ct),osl⟩)
  (c:codeIn K cdv aj=true) (k:keepIn K (.ref f)=true):Fun K x aj st f (fnOf x aj (Dt st) (Aq st) (Ak st) dV kV doc pm an cdv ct):=⟨⟨oc,od,dV,kV,doc,pm,an,cdv,ct,osl,rfl,l,c⟩,k⟩
end
section
theorem Alb:Hh X (.builtin "len") (fun xs H Q=>∃a kvs,xs=[V.ref a]/\H a=some (.dK kvs)/\Q (.int kvs.length) H):=by
 intro aa s σ H xs us Q I r h;obtain⟨a,kvs,rfl,ha,q⟩:=h;obtain⟨u,rfl,ru⟩:=vals1 r;cases ru;exact Bdn I (.inl ha) fun t s' I'=>⟨.int kvs.length,H,I',⟨t,rfl⟩,q⟩
end
theorem Ag4 {A B:Prop} (h:B):if false=true then A else B:=by
 rw[if_neg Bool.false_ne_true];exact h
theorem Ag5 {A B:Prop} (h:A):if true=true then A else B:=by
 rw[if_pos rfl];exact h
def O2 (n:Nat) (h:Heap) (e:Addr) (od:Option Addr):Prop:=∃oe vs,h.get? e=some oe/\oe.data=.fields vs/\(n=0->vs[2]?=some .none)/\oe.dict=od
theorem Aob (ob:Obj):(Obj.mapFields f ob).dict=ob.dict:=by
 obtain⟨c,d,dt,sl⟩:=ob;cases dt <;> rfl
section
variable {M:Model} {A:Around} {E:Value->Shared->Prop} {s:Shared} {n:Nat} {od:Option Addr}
theorem Axu
  (fr:A.frames=some (env::outer)) (ff:s.heap.FunFrames B (env::outer)) (fL:env.frame=some L) (at_:s.heap.get? e=some ob) (kB:B.StaysIn s.heap) (nB:B.get? e=none) (dt:ob.data=.fields vs) (sz:1 < vs.size) (v0:vs[0]?=some a0) (v2:n=0->vs[2]?=some .none)
  (k:∀g,NotedW B (env::outer) e ob.cls a0 (rawInt L) s.heap g->O2 n g e ob.dict->Q () { s with heap:=g }) :
  wpAny M A (do let a<-frameOf env;let pl<-entryPlaceOf L nx;let b<-EntryCells.newEntry hd a .none (rawInt L) .none pl;setField (.ref e) 1 b) Q E s:=by
 have off:e∉(env::outer).filterMap (·.frame):=fun z=>by
  obtain⟨_,o,q,n⟩:=ff.mem z;rw[at_] at q;exact n vs (by rw[<-Option.some.inj q];exact dt)
 refine wpAny_bind (wpAny_frameOf_fun fr ff fL fun g1 only=>?_);refine wpAny_bind (wpAny_entryPlaceOf fun pl hpl=>?_);unfold EntryCells.newEntry newFields;refine wpAny_bind (wpAny_newObj_type ?_ (hpl.sizeOk5 _ _ _ _ _));generalize hT:({ cls:=.type "traceback",dict:=none,data:=.fields ([hd,.ref L,.none,rawInt L,.none] ++ (if pl.isEmpty then List.replicate 6 Value.none else pl)).toArray }:Obj)=tb
 have q1:g1.get? e=some ob:=(only.2.1 e off).trans at_;have kB1:B.StaysIn g1:=fun b o z=>(only.2.1 b fun w=>by rw[(ff.mem w).1] at z;cases z).trans (kB b o z)
 have q2:(g1.push tb).get? e=some ob:=get?_push_of_some tb q1;refine wpAny_setField q2 dt sz ?_;have ne:g1.objs.size≠e:=ne_of_gt (lt_size q1);have d3:=Obj.data_mapFields dt (·.setIfInBounds 1 (Value.ref g1.objs.size));have q3:=get?_update_self (Obj.mapFields (·.setIfInBounds 1 (Value.ref g1.objs.size))) q2 (Obj.isFreed_of_fields d3);have t3:=(get?_update_other (g1.push tb) (Obj.mapFields (·.setIfInBounds 1 (Value.ref g1.objs.size))) (Ne.symm ne)).trans (get?_push_size g1 (by rw[<-hT];rfl))
 have stay:∀b o,b≠e->g1.get? b=some o->((g1.push tb).update e (Obj.mapFields (·.setIfInBounds 1 (Value.ref g1.objs.size)))).get? b=some o:=fun b o n z=>(get?_update_other _ _ (Ne.symm n)).trans (get?_push_of_some tb z);have nrec:∀b o,s.heap.get? b=some o->(∀us,o.data≠.fields us)->b≠e:=fun b o z n w=>by
  subst w;rw[at_] at z;exact n vs (by rw[<-Option.some.inj z];exact dt)
 refine k _ ⟨fun b o z=>stay b o (fun w=>by rw[w,nB] at z;cases z) (kB1 b o z),ff.of_keeps fun b o z n=>?_,?_,fun b o z n=>?_⟩ ⟨_,_,q3,d3,fun z=>by rw[Array.getElem?_setIfInBounds_ne (by decide)];exact v2 z,Aob ob⟩
 .obtain⟨sl,w⟩:=only.2.2 b o z;exact⟨_,stay b _ (nrec b o z n) w,rfl⟩
 .refine⟨_,_,g1.objs.size,_,_,q3,⟨Obj.cls_mapFields _ _,by rw[Array.getElem?_setIfInBounds_ne (by decide)];exact v0⟩,d3,by simp[sz],kB1.fresh,ne,t3,by rw[<-hT],?_⟩
  first
   |(simp;done)
   |(rcases hpl with rfl|⟨_,_,_,_,_,_,_,rfl⟩ <;> simp)
 .obtain⟨sl,w⟩:=only.2.2 b o z;exact⟨sl,stay b _ (nrec b o z n) w⟩
theorem Ag6 (kB:B.StaysIn s.heap) (ff:s.heap.FunFrames B l) (tr:s.heap.TracedAtW B e cls a0 fl) (cx:O2 n s.heap e od)
  (k:∀g,B.StaysIn g->g.FunFrames B l->g.TracedW B e cls a0->O2 n g e od->s.heap.UpToSlots g->Q () { s with heap:=g }):wpAny M A (setFlight (.ref e) none) Q E s:=by
 obtain⟨oe,vs,T,oT,ts,q1,hc,dt,v1,nT,nTe,qT,dT,t3⟩:=tr;obtain⟨oe',vs',c1,c2,c3,c4⟩:=cx;rw[q1] at c1;obtain rfl:=Option.some.inj c1;rw[dt] at c2;obtain rfl:vs=vs':=by injection c2
 have s3:3 < ts.size:=(Array.getElem?_eq_some_iff.mp t3).1;have oth:∀b,b≠T->(s.heap.update T (Obj.mapFields (·.setIfInBounds 3 .none))).get? b=s.heap.get? b:=fun b n=>get?_update_other _ _ (Ne.symm n);have nrec:∀b o,s.heap.get? b=some o->(∀us,o.data≠.fields us)->b≠T:=fun b o z n w=>by
  subst w;rw[qT] at z;exact n ts (by rw[<-Option.some.inj z];exact dT)
 have q2:=(oth e (Ne.symm nTe)).trans q1;refine wpAny_setFlight_none q1 dt v1 qT dT s3 (k _ (fun b o z=>(oth b fun w=>by rw[w,nT] at z;cases z).trans (kB b o z)) (ff.of_keeps fun b o z n=>⟨o,(oth b (nrec b o z n)).trans z,rfl⟩) ?_ ⟨_,_,q2,dt,c3,c4⟩ fun b o z n=>⟨o.slots,(oth b (nrec b o z n)).trans z⟩)
 exact⟨oe,vs,T,_,_,q2,hc,dt,v1,nT,nTe,get?_update_self _ qT (Obj.isFreed_of_fields (Obj.data_mapFields dT _)),Obj.data_mapFields dT _,by simp[s3]⟩
theorem Azg
  (fr:A.frames=some (env::outer)) (ff:s.heap.FunFrames B (env::outer)) (fL:env.frame=some L) (at_:s.heap.get? e=some ob) (kB:B.StaysIn s.heap) (nB:B.get? e=none) (dt:ob.data=.fields vs) (v1:vs[1]?=some .none) (v0:vs[0]?=some a0) (v2:n=0->vs[2]?=some .none)
  (k:∀g,NotedW B (env::outer) e ob.cls a0 (rawInt L) s.heap g->O2 n g e ob.dict->Q () { s with heap:=g }):wpAny M A (noteFrame (.ref e) env) Q E s:=by
 unfold noteFrame;simp only[fL];refine wpAny_bind (wpAny_field at_ dt v1 ?_);rw[if_neg (by decide)]
 exact Axu fr ff fL at_ kB nB dt (Array.getElem?_eq_some_iff.mp v1).1 v0 v2 k
theorem Aoc
  (fr:A.frames=some (env::outer)) (ff:s.heap.FunFrames B (env::outer)) (fL:env.frame=some L) (tr:s.heap.TracedW B e cls a0) (kB:B.StaysIn s.heap) (nB:B.get? e=none) (cx:O2 n s.heap e od)
  (k:∀g,NotedW B (env::outer) e cls a0 (rawInt L) s.heap g->O2 n g e od->Q () { s with heap:=g }):wpAny M A (noteFrame (.ref e) env) Q E s:=by
 obtain⟨oe,vs,T,oT,ts,q1,⟨hc,v0⟩,dt,v1,nT,nTe,qT,dT,t3⟩:=tr;obtain⟨oe',vs',c1,c2,c3,c4⟩:=cx;rw[q1] at c1;obtain rfl:=Option.some.inj c1;rw[dt] at c2;obtain rfl:vs=vs':=by injection c2
 subst hc;subst c4;unfold noteFrame;simp only[fL];refine wpAny_bind (wpAny_field q1 dt v1 ?_);rw[if_pos (show (Value.ref T != Value.none)=true by simp)]
 refine wpAny_bind (wpAny_field qT dT t3 ?_);rw[if_neg (show ¬ ((Value.none==rawInt L)=true) by simp[rawInt])]
 refine wpAny_bind (wpAny_setField qT dT (Array.getElem?_eq_some_iff.mp t3).1 ?_);have oth:∀b,b≠T->(s.heap.update T (Obj.mapFields (·.setIfInBounds 3 Value.none))).get? b=s.heap.get? b:=fun b n=>get?_update_other _ _ (Ne.symm n);have nrec:∀b o,s.heap.get? b=some o->(∀us,o.data≠.fields us)->b≠T:=fun b o z n w=>by
  subst w;rw[qT] at z;exact n ts (by rw[<-Option.some.inj z];exact dT)
 refine Axu fr (ff.of_keeps fun b o z n=>⟨o,(oth b (nrec b o z n)).trans z,rfl⟩) fL ((oth e (Ne.symm nTe)).trans q1) (fun b o z=>(oth b fun w=>by rw[w,nT] at z;cases z).trans (kB b o z)) nB dt (Array.getElem?_eq_some_iff.mp v1).1 v0 c3 fun g N cx=>k g ⟨N.1,N.2.1,N.2.2.1,fun b o z n=>N.2.2.2 b o ((oth b (nrec b o z n)).trans z) n⟩ cx
theorem Ai3
  (fr:A.frames=some (env::outer)) (ff:s.heap.FunFrames B (env::outer)) (fL:env.frame=some L) (at_:s.heap.get? e=some ob) (kB:B.StaysIn s.heap) (nB:B.get? e=none) (dt:ob.data=.fields vs) (v1:vs[1]?=some .none) (v0:vs[0]?=some a0) (v2:n=0->vs[2]?=some .none)
  (k:∀g,Heap.LeftW B (env::outer) e ob.cls a0 s.heap g->O2 n g e ob.dict->Q () { s with heap:=g }):wpAny M A (leaving env (.ref e)) Q E s:=by
 unfold leaving;refine wpAny_bind (Azg fr ff fL at_ kB nB dt v1 v0 v2 fun g N cx=>?_);exact Ag6 (s:={ s with heap:=g }) N.1 N.2.1 N.2.2.1 cx fun g2 x1 x2 x3 x4 x5=>k g2 ⟨x1,x2,x3,fun b o z n=>by
  obtain⟨sl,w⟩:=N.2.2.2 b o z n;obtain⟨sl2,w2⟩:=x5 b _ w n;exact⟨sl2,w2⟩⟩ x4
theorem Atg (fr:A.frames=some (env::outer)) (fL:env.frame=some L) (fl:FlyingW B (env::outer) e cls a0 s.heap) (cx:O2 n s.heap e od)
  (k:∀g,FlyingW B outer e cls a0 g->O2 n g e od->s.heap.UpToSlots g->Q () { s with heap:=g }):wpAny M A (leaving env (.ref e)) Q E s:=by
 obtain⟨f1,f2,f3,f4⟩:=fl;unfold leaving;refine wpAny_bind (Aoc fr f3 fL f4 f1 f2 cx fun g N cx2=>?_);exact Ag6 (s:={ s with heap:=g }) N.1 N.2.1 N.2.2.1 cx2 fun g2 x1 x2 x3 x4 x5=>by
  obtain⟨_,_,x2'⟩:=x2;exact k g2 ⟨x1,f2,x2',x3⟩ x4 fun b o z n=>by
   obtain⟨sl,w⟩:=N.2.2.2 b o z n;obtain⟨sl2,w2⟩:=x5 b _ w n;exact⟨sl2,w2⟩
def okX (o:Option (Nat×Option Addr)) (h:Heap) (e:Addr):Prop:=∀n od,o=some (n,od)->O2 n h e od
theorem O2.ok {n:Nat} (c:O2 0 h e od):okX (some (n,od)) h e:=fun _ _ z=>by
 cases z;obtain⟨oe,vs,h1,h2,h3,h4⟩:=c;exact⟨oe,vs,h1,h2,fun _=>h3 rfl,h4⟩
theorem okX.none:okX none h e:=fun _ _ z=>nomatch z
theorem O2.okS {n:Nat} (c:O2 n h e od):okX (some (n,od)) h e:=fun _ _ z=>by cases z;exact c
theorem Azh {o:Option (Nat×Option Addr)} (fr:A.frames=some (env::outer)) (fL:env.frame=some L) (fl:FlyingW B (env::outer) e cls a0 s.heap) (ox:okX o s.heap e)
  (k:∀g,FlyingW B outer e cls a0 g->okX o g e->s.heap.UpToSlots g->Q () { s with heap:=g }):wpAny M A (leaving env (.ref e)) Q E s:=by
 cases o with
 |none=>exact wpAny_leaves_onW fr fL fl fun g f sm=>k g f okX.none sm
 |some p=>exact Atg fr fL fl (ox p.1 p.2 rfl) fun g f cx sm=>k g f cx.okS sm
theorem Azi {o:Option (Nat×Option Addr)} (fr:A.frames=some (env::outer)) (fL:env.frame=some L) (fl:FlyingW B (env::outer) e cls a0 s.heap) (ox:okX o s.heap e)
  (k:∀g,Heap.HeldW B (env::outer) e cls a0 L g->okX o g e->s.heap.UpToSlots g->Q () { s with heap:=g }):wpAny M A (noteFrame (.ref e) env) Q E s:=by
 obtain⟨f1,f2,f3,f4⟩:=fl;cases o with
 |none=>exact wpAny_looks_onW fr fL ⟨f1,f2,f3,f4⟩ fun g f sm=>k g f okX.none sm
 |some p=>exact Aoc fr f3 fL f4 f1 f2 (ox p.1 p.2 rfl) fun g N cx=>k g ⟨N.1,f2,N.2.1,N.2.2.1⟩ cx.okS N.2.2.2
theorem Aod {o:Option (Nat×Option Addr)} (kB:B.StaysIn s.heap) (nB:B.get? e=none) (ff:s.heap.FunFrames B l) (tr:s.heap.TracedAtW B e cls a0 fl) (ox:okX o s.heap e)
  (k:∀g,FlyingW B l e cls a0 g->okX o g e->s.heap.UpToSlots g->Q () { s with heap:=g }):wpAny M A (setFlight (.ref e) none) Q E s:=by
 cases o with
 |none=>exact wpAny_setFlight_noneW kB ff tr fun g x1 x2 x3 x4=>k g ⟨x1,nB,x2,x3⟩ okX.none fun b ob hb hn=>⟨ob.slots,x4 b ob hb hn⟩
 |some p=>exact Ag6 kB ff tr (ox p.1 p.2 rfl) fun g x1 x2 x3 cx sm=>k g ⟨x1,nB,x2,x3⟩ cx.okS sm
theorem Azj (fr:A.frames=some (env::outer)) (fL:env.frame=some L) (kB:B.StaysIn h) (ff:h.FunFrames B (env::outer)) (hx:MadeExcOf h s.heap e cls args)
  (k:∀g t,FlyingW B outer e cls (.ref t) g->O2 0 g e none->s.heap.UpToSlots g->Q () { s with heap:=g }):wpAny M A (leaving env (.ref e)) Q E s:=by
 obtain⟨t,q1,_,_⟩:=hx.there;have nB:B.get? e=none:=by
  cases z:B.get? e with
  |none=>rfl
  |some o=>
   have w:=kB e o z;rw[hx.new] at w;cases w
 refine Ai3 (n:=0) (a0:=.ref t) fr (ff.of_keeps fun b o z _=>⟨o,hx.keeps b o z,rfl⟩) fL q1 (fun b o z=>hx.keeps b o (kB b o z)) nB rfl rfl rfl (fun _=>rfl) fun g hL cx=>?_;obtain⟨k1,⟨_,_,k2⟩,k3,k4⟩:=hL;exact k g t ⟨k1,nB,k2,k3⟩ cx k4
end
theorem Dn.there (x:Dn P w H h a o):∃ob,h.get? a=some ob:=by
 cases o with
 |lst xs=>obtain⟨_,_,_,_,e⟩:=x;exact⟨_,e⟩
 |tup xs=>obtain⟨_,_,_,ob,e,_⟩:=x;exact⟨_,e⟩
 |dK kvs=>obtain⟨_,_,_,_,o,_,_,e,_⟩:=x;exact⟨_,e⟩
 |dT kvs=>obtain⟨_,_,_,_,o,_,_,e,_⟩:=x;exact⟨_,e⟩
 |set S n=>obtain⟨o,_,_,_,e,_⟩:=x;exact⟨_,e⟩
 |ins C dx fs=>obtain⟨_,_,_,e,_⟩:=x;exact⟨_,e⟩
 |own y=>exact x
 |xd fs=>obtain⟨_,⟨_,_,_,e,_⟩,_⟩:=x;exact⟨_,e⟩
 |rng lo hi=>obtain⟨_,_,_,e⟩:=x;exact⟨_,e⟩
 |frz ob u=>obtain⟨e,_⟩:=x;exact⟨_,e⟩
 |tbl ps=>exact⟨_,(show h.get? a=some _ from x)⟩
 |met f y=>exact⟨_,(show h.get? a=some _ from x)⟩
 |ext φ=>obtain⟨_,z,_⟩:=x;exact z
structure Fly (P:Program) (w:World) (outer:List Env) (H:Hp) (s:Shared) (H':Hp) (e:Addr) (cls:Value) (s':Shared):Prop where
 os:s'.os=s.os
 bare:AllBare s'.gens
 un:Un (frs outer) [] H H' s.heap s'.heap
 hok:HOk P w H' s'.heap
 new:s.heap.get? e=none
 fre:H' e=none
 fly:∃(B:Heap) (a0:Value),FlyingW B outer e cls a0 s'.heap/\(∀b o,s.heap.get? b=some o->H b=none->b∉frs outer->B.get? b=some o)/\
  (∀b o,s.heap.get? b=some o->b∉frs outer->∃o',B.get? b=some o')/\∀a u o,H' a=some u->s'.heap.get? a=some o->B.get? a=some o
def CXo (P:Program) (w:World):CXT:=fun outer H s E e s'=>∃(ea:Addr) (cls:Value) (H':Hp) (o:Option (Nat×Option Addr)),e=Value.ref ea/\Fly P w outer H s H' ea cls s'/\okX o s'.heap ea/\E cls o H'
section
variable {X:Cx} {aa:List (Addr×Obj)} {σ:St} {H H':Hp} {s s':Shared}
theorem Inv.notStk (I:Inv X aa σ H s) (e:X.s₀.heap.get? b=some o) (hb:b∉X.fs):b∉frs X.stack:=fun z=>by
 rcases mem_cons.mp (I.stkSub b z) with q|q
 .exact absurd (lt_of_lt_of_le (lt_size e) (by rw[q];exact I.ok.above)) (lt_irrefl _)
 .exact hb q
theorem Inv.fsStk (I:Inv X aa σ H s) (hs:X.stack=X.env::X.outer):∀b∈X.fs,b∈frs X.stack:=fun b hb=>by
 rw[hs];unfold frs;obtain⟨env,he,hf⟩:=mem_filterMap.mp hb;exact mem_filterMap.mpr ⟨env,mem_cons.mpr (.inr he),hf⟩
theorem Inv.locStk (I:Inv X aa σ H s) (hs:X.stack=X.env::X.outer) (hf:X.env.frame=some X.env.locals):X.env.locals∈frs X.stack:=by
 rw[hs];exact mem_filterMap.mpr ⟨X.env,mem_cons.mpr (.inl rfl),hf⟩
theorem Inv.fly_made (I:Inv X aa σ H s) (bh:X.stack=X.env::X.outer) (hfr:X.env.frame=some X.env.locals) (hex:X.ex=[])
  (hx:MadeExcOf s.heap h' e cls args)
  (k:∀h'':Heap,Fly X.prog X.w X.outer X.H₀ X.s₀ H e cls { s with heap:=h'' }->O2 0 h'' e none->Q () { s with heap:=h'' }):wpAny M X.A (leaving X.env (.ref e)) Q E { s with heap:=h' }:=by
 have hin:∀env∈X.stack,∀a,env.frame=some a->a∈frs X.stack:=fun env he a ha=>mem_filterMap.mpr ⟨env,he,ha⟩;have st:(hideAll s.heap (frs X.stack)).StaysIn s.heap:=fun b o q=>of_hideAll _ q;have ff:s.heap.FunFrames (hideAll s.heap (frs X.stack)) X.stack:=PySem.W.funFrames_hide I.stack hin;have noex:∀b,b∉X.ex:=fun b z=>by rw[hex] at z;exact absurd z (by simp)
 have ff:s.heap.FunFrames (hideAll s.heap (frs X.stack)) (X.env::X.outer):=by rw[<-bh];exact ff
 refine Azj (s:={ s with heap:=h' }) (B:=hideAll s.heap (frs X.stack)) (h:=s.heap) (by rw[I.ok.frames,bh]) hfr st ff hx fun h'' t x1 cx x4=>k h'' ?_ cx
 have x4:h'.UpToSlots h'':=x4;have keepB:∀b o,s.heap.get? b=some o->b∉frs X.stack->h''.get? b=some o:=fun b o q n=>x1.1 b o (hideAll_get _ q n);have frm:∀b o,s.heap.get? b=some o->b∈frs X.stack->∃sl,h''.get? b=some { o with slots:=sl }:=fun b o q hb=>by
  obtain⟨_,o',q',nf⟩:=I.stack.mem hb;rw[q] at q';cases q';exact x4 b o (hx.keeps b o q) nf
 refine⟨I.os,I.bare,⟨fun b o q n hb _=>?_,fun b o q n hb _=>?_,fun b o q n _=>I.base.free b o q n (noex b),fun b o q _=>?_,I.base.tups,I.base.frzs,I.base.tbls⟩,fun a u q=>?_,?_,?_,?_⟩
 .exact keepB b o (I.base.keep b o q n hb (noex b)) (I.notStk q hb)
 .obtain⟨sl,q1⟩:=I.base.slot b o q n hb (noex b);obtain⟨sl',q2⟩:=frm b _ q1 (I.fsStk bh b hb);exact⟨sl',q2⟩
 .obtain⟨o',q1⟩:=I.base.there b o q (noex b);by_cases hb:b∈frs X.stack
  .obtain⟨sl,q2⟩:=frm b o' q1 hb;exact⟨_,q2⟩
  .exact⟨o',keepB b o' q1 hb⟩
 .refine(I.hok a u q).stay (fun b v hb z=>keepB b v z fun m=>?_) (fun _ z=>z) fun _ _ z=>z;have n:=I.stkFree b m;rcases hb with rfl|hb
  .rw[n] at q;cases q
  .rw[n] at hb;cases hb
 .cases q:X.s₀.heap.get? e with
  |none=>rfl
  |some o=>
   obtain⟨o',q1⟩:=I.base.there e o q (noex e);rw[hx.new] at q1;cases q1
 .cases q:H e with
  |none=>rfl
  |some u=>
   obtain⟨o',q1⟩:=(I.hok e u q).there;rw[hx.new] at q1;cases q1
 .refine⟨_,_,x1,fun b o q n hb=>hideAll_get _ (I.base.keep b o q n hb (noex b)) (I.notStk q hb),fun b o q hb=>?_,fun a u o q z=>?_⟩
  .obtain⟨o',q1⟩:=I.base.there b o q (noex b);exact⟨o',hideAll_get _ q1 (I.notStk q hb)⟩
  .obtain⟨ob,q1⟩:=(I.hok a u q).there;have q2:=hideAll_get (frs X.stack) q1 fun m=>by
    have n:=I.stkFree a m;rw[n] at q;cases q
   have q3:=x1.1 a ob q2;have z:h''.get? a=some o:=z;rw[q3] at z;cases z;exact q2
theorem Inv.fly_on (I:Inv X aa σ H s) (bh:X.stack=X.env::X.outer) (hfr:X.env.frame=some X.env.locals) (hex:X.ex=[])
  (F:Fly X.prog X.w X.stack H s H' e cls s') {o:Option (Nat×Option Addr)} (ox:okX o s'.heap e)
  (k:∀h'':Heap,Fly X.prog X.w X.outer X.H₀ X.s₀ H' e cls { s' with heap:=h'' }->okX o h'' e->Q () { s' with heap:=h'' }):wpAny M X.A (leaving X.env (.ref e)) Q E s':=by
 obtain⟨B,a0,fl,k1,kE,k2⟩:=F.fly;have noex:∀b,b∉X.ex:=fun b z=>by rw[hex] at z;exact absurd z (by simp)
 have fl':=fl;rw[bh] at fl';refine Azh (by rw[I.ok.frames,bh]) hfr fl' ox fun h'' x1 ox2 x2=>k h'' ?_ ox2
 have frm:∀b o,s'.heap.get? b=some o->b∈frs X.stack->∃sl,h''.get? b=some { o with slots:=sl }:=fun b o q hb=>by
  obtain⟨_,o',q',nf⟩:=fl.2.2.1.mem hb;rw[q] at q';cases q';exact x2 b o q nf
 refine⟨F.os.trans I.os,F.bare,⟨fun b o q n hb _=>?_,fun b o q n hb _=>?_,fun b o q n _=>?_,fun b o q _=>?_,fun b xs q=>F.un.tups b xs (I.base.tups b xs q),fun b o u q=>F.un.frzs b o u (I.base.frzs b o u q),fun b ps q=>?_⟩,fun a u q=>?_,?_,F.fre,?_⟩
 .exact x1.1 b o (k1 b o (I.base.keep b o q n hb (noex b)) (I.base.free b o q n (noex b)) (I.notStk q hb))
 .obtain⟨sl,q1⟩:=I.base.slot b o q n hb (noex b);have hb':=I.fsStk bh b hb;obtain⟨sl',q2⟩:=F.un.slot b _ q1 (I.base.free b o q n (noex b)) hb' (by simp)
  obtain⟨sl'',q3⟩:=frm b _ q2 hb';exact⟨sl'',q3⟩
 .obtain⟨o',q1⟩:=I.base.there b o q (noex b);exact F.un.free b o' q1 (I.base.free b o q n (noex b)) (by simp)
 .obtain⟨o',q1⟩:=I.base.there b o q (noex b);by_cases hb:b∈frs X.stack
  .obtain⟨_,o'',q2,_⟩:=fl.2.2.1.mem hb;obtain⟨sl,q3⟩:=frm b o'' q2 hb;exact⟨_,q3⟩
  .obtain⟨o'',q2⟩:=kE b o' q1 hb;exact⟨o'',x1.1 b o'' q2⟩
 .obtain⟨m1,e1⟩:=I.base.tbls b ps q;obtain⟨m2,e2⟩:=F.un.tbls b _ e1;exact⟨m1 ++ m2,by rw[e2,Array.append_assoc]⟩
 .refine(F.hok a u q).stay (fun b v hb z=>?_) (fun _ z=>z) fun _ _ z=>z;rcases hb with rfl|hb
  .exact x1.1 b v (k2 b u v q z)
  .exact x1.1 b v (k2 b _ v hb z)
 .cases q:X.s₀.heap.get? e with
  |none=>rfl
  |some o=>
   obtain⟨o',q1⟩:=I.base.there e o q (noex e);rw[F.new] at q1;cases q1
 .refine⟨B,a0,x1,fun b o q n hb=>k1 b o (I.base.keep b o q n hb (noex b)) (I.base.free b o q n (noex b)) (I.notStk q hb),fun b o q hb=>?_,fun a u o q z=>?_⟩
  .obtain⟨o',q1⟩:=I.base.there b o q (noex b);exact kE b o' q1 (I.notStk q hb)
  .obtain⟨ob,q1⟩:=(F.hok a u q).there;have q2:=k2 a u ob q q1;have q3:=x1.1 a ob q2;have z:h''.get? a=some o:=z;rw[q3] at z;cases z;exact q2
end
def Raises (X:Cx) (E:XK):Prop:=∀(aa:List (Addr×Obj)) (σ:St) (H:Hp) (s:Shared) (e:Addr) (cls:Value) (args:List Value) (h':Heap) (n:Nat),
 Inv X aa σ H s->MadeExcOf s.heap h' e cls args->E cls (some (n,none)) H->X.xe (.ref e) { s with heap:=h' }
section
variable {P:Program} {w:World} {K:PySem.W.Frag} {mg:Str->Option Value} {base:Heap} {N:List Str} {aj:Str} {sc:Scope} {f:Addr} {cd:Value} {A:Around} {outer:List Env} {s₀:Shared} {H₀:Hp} {E:XK} {cm:Bool}
theorem Alc:Raises (Ss (CXo P w) P w K mg base N aj sc f cd A outer s₀ H₀ E cm) E:=fun aa σ H s e cls args h' n I hx q=>
 I.fly_made rfl rfl rfl hx fun h'' F cx=>⟨e,cls,H,_,rfl,F,cx.ok,q⟩
theorem Ald:Ay9 (CXo P w) (Ss (CXo P w) P w K mg base N aj sc f cd A outer s₀ H₀ E cm) E:=fun aa σ H s e s' I h=>by
 obtain⟨ea,cls,H',o,rfl,F,ox,q⟩:=h;exact I.fly_on rfl rfl rfl F ox fun h'' F' ox'=>⟨ea,cls,H',o,rfl,F',ox',q⟩
end
theorem Ath {K:PySem.W.Frag} {h:Heap} {C:Addr} {bmB:List Value} {newId:String} (X:K.In h) (q:excIn K C bmB newId=true) :
  ∃bm N nm qn bs hdct sn sub ab col dd k0 k1 k2 k3 k5 mN,h.get? C=some (excClassObj nm qn C N bs bm hdct sn sub ab col dd k0 k1 k2 k3 k5 newId)/\h.Ns N mN/\mN "__init__"=none/\OwnTail h bmB bm:=by
 unfold excIn at q;split at q
 .rename_i dd cd sl ho;split at q
  .rename_i C' bm k0 k1 k2 k3 n k5 hm hs;simp only[and_eq_true,beq_iff_eq,not_eq_true'] at q;obtain⟨⟨⟨⟨⟨rfl,rfl⟩,hdel⟩,ht⟩,hok⟩,hni⟩:=q;obtain⟨nm,bs,mro,ns,qn,hd,sn,sub,ab,col,del⟩:=cd;dsimp only at hm hdel hok hni;subst hm hdel;have hsl:sl=#[k0,k1,k2,k3,some (.builtin n),k5]:=by
    obtain⟨l⟩:=sl;simp only at hs;rw[hs]
   subst hsl;exact⟨bm,ns,nm,qn,bs,hd,sn,sub,ab,col,dd,k0,k1,k2,k3,k5,_,X _ _ ho,.of_isNs (isNs_of_in X hok),PySem.W.nsMap_none_of_in X hok hni,tail_of_in X ht⟩
  .cases q
 .cases q
def Aoe (ta:TA) (C:Addr) (E:XK):TS:=fun _ σ H=>ta σ H fun vs H1=>vs.length<=sizeLine/\∃n,E (.ref C) (some (n,none)) H1
abbrev Yc:List Value:=[.type "ValueError",.type "Exception",.type "BaseException",.type "object"]
abbrev Aad (K:PySem.W.Frag) (C:Addr):Prop:=excIn K C Yc "ValueError.__new__"=true
theorem Aof {X:Cx} {E:XK} {x:Str} {C:Addr} {e₀:Expr} {es:List Expr} {ta:TA} {np cpos pos:Pos} (hx:Aad X.K C) (hg:Gl X x) (hm:X.mg x=some (.ref C)) (hc:X.calm=true) (hR:Raises X E) (ha:PA X (e₀::es) ta)
  (hd:(x==("__debug__":Str))=false:=by decide) (he:starEach (e₀::es) X.env=(false,eval e₀ X.env)::starEach es X.env:=by rfl) (hpl:(backTo cpos (starEach es X.env)).any (·.1)=false:=by rfl) :
  PS X (.Raise (some (.Call (.Name x np) (e₀::es) [] cpos)) none pos) (Aoe ta C E):=by
 intro aa s σ H D I h;obtain⟨tl,N,nm,q,bs,hdct,sn,sub,ab,col,dd,k0,k1,k2,k3,k5,mN,hC,hN,hni,T⟩:=Ath I.ok.mod.kin hx;refine wpAny_Raise_call_subT (C:=C) (nm:=nm) (q:=q) (N:=N) (bs:=bs) (bm:=tl) (hdct:=hdct) (sn:=sn) (sub:=sub) (ab:=ab) (col:=col) (dd:=dd) (k0:=k0) (k1:=k1) (k2:=k2) (k3:=k3) (k5:=k5)
  PySem.F.excBase_ValueError (mN:=mN) (T.hasType PySem.F.excBase_ValueError.hasBase) (I.ok.hd hc) (by rw[he];show (false||(backTo cpos (starEach es X.env)).any (·.1))=false;rw[hpl];rfl) hni (Lh I hg hm ⟨rfl,?_⟩ hd)
 have ha':=ha cpos aa s σ H _ I h;rw[he] at ha' ⊢
 refine Calls.evalArgs_plain (wpAny_mono ha' (fun us s2 h2=>?_) fun _ _ y=>y);obtain⟨vs,H2,I2,r,hl,o,q2⟩:=h2;exact⟨rfl,by rw[<-r.length];exact hl,I2.bk _ _ hC,hN.keeps I2.bk,T.keeps I2.bk,fun h' e hmade=>hR aa σ H2 s2 e (.ref C) us h' o I2 hmade q2⟩
def Du (CX:CXT) (X:Cx) (E:St->XK):Prop:=∀(aa:List (Addr×Obj)) (σ:St) (H:Hp) (s:Shared) (e:Value) (s':Shared),Inv X aa σ H s->CX X.stack H s (E σ) e s'->X.xe e s'
def Ag7 (sp:Sp) (dvs:List V) (E:St->XK) (t:TA):TE:=fun σ H Q=>t σ H fun vs H1=>sp (vs ++ dvs) H1 Q (E σ)
theorem Aeg {k:Nat}
  (F:Gw X.prog X.w X.K X.mg X.base CX k f fd ps sp cm) (hr:Hc k X.A cm) (hg:Gl X x) (hm:X.mg x=some (.ref f)) (hk:keepIn X.K (.ref f)=true) (hb:Binds X.K fd ps ds) (hd:Vals dvs ds) (hx:Du CX X E)
  (ha:PA X (e::es) t) (hdb:(x==("__debug__":Str))=false:=by decide) (he:starEach (e::es) X.env=(false,eval e X.env)::starEach es X.env:=by rfl) (hpl:(backTo pos (starEach es X.env)).any (·.1)=false:=by rfl) :
  PE X (.Call (.Name x p) (e::es) [] pos) (Ag7 sp dvs E t):=by
 intro aa s σ H Q I h;refine wpAny_Call_Name_kw (Lh I hg hm ?_ hdb);refine callWith_K (h₀:=X.base) I.ok.mod.kin hk (thn (ha pos aa s σ H _ I h) fun us s1 ⟨vs,H1,I1,r,q⟩=>⟨I1.kIn,?_⟩) he hpl;have r2:Vals (vs ++ dvs) (us ++ ds):=r.append hd;have hl:(us ++ ds).length=ps.length:=by rw[<-r2.length];exact F.len _ _ _ _ q
 refine wpAny_call (codeAny_mono (F.run X.A X.stack s1 H1 ⟨us,[]⟩ (us ++ ds) (vs ++ dvs) Q (E σ) hr I1.env0 (hb s1 us I1.kIn hl) r2 q) fun r s' hq=>?_);cases r with
 |error e=>exact hx aa σ H1 s1 e s' I1 hq
 |ok fl=>
  cases fl with
  |ret u=>exact I1.after hq
  |next=>exact False.elim hq
  |brk=>exact False.elim hq
  |cont=>exact False.elim hq
def Su (a:Addr) (cls:Value) (o:Option (Nat×Option Addr)):HO:=.ext fun h=>(∃o vs,h.get? a=some o/\o.cls=cls/\o.data=.fields vs)/\okX o h a
abbrev Cx.tryB (X:Cx) (pn:List (Addr×Obj)) (xe:Value->Shared->Prop):Cx:={ X with pn:=pn,xe:=xe }
abbrev Cx.suite (X:Cx) (e:Addr):Cx:={ X with A:=X.A.mark (some (.ref e)),calm:=false,xe:=fun _ _=>False }
section
variable {X:Cx} {aa pins':List (Addr×Obj)} {σ:St} {H H':Hp} {s s':Shared} {xe:Value->Shared->Prop}
theorem Inv.tryIn (I:Inv X aa σ H s):Inv (X.tryB (X.pn ++ aa) xe) [] σ H s:=
 ⟨⟨I.ok.mod,I.ok.kind,I.ok.glob,I.ok.blt,I.ok.above,I.ok.inj,I.ok.has,I.ok.cab,I.ok.hd,I.ok.frames,I.ok.stk,I.ok.exf,I.ok.bs,I.ok.bsz,I.ok.noex,I.ok.exfs,I.ok.funs,I.ok.frf⟩,
 I.os,I.bare,I.base,I.loc,I.cell,I.free,I.freeC,fun p hp=>I.pin p (by simpa using hp),I.hok,I.len⟩
theorem Inv.tryOut (I:Inv (X.tryB (X.pn ++ aa) xe) pins' σ H s):Inv X aa σ H s:=
 ⟨⟨I.ok.mod,I.ok.kind,I.ok.glob,I.ok.blt,I.ok.above,I.ok.inj,I.ok.has,I.ok.cab,I.ok.hd,I.ok.frames,I.ok.stk,I.ok.exf,I.ok.bs,I.ok.bsz,I.ok.noex,I.ok.exfs,I.ok.funs,I.ok.frf⟩,
 I.os,I.bare,I.base,I.loc,I.cell,I.free,I.freeC,fun p hp=>I.pin p (List.mem_append_left _ hp),I.hok,I.len⟩
theorem Inv.suiteIn (I:Inv X aa σ H s) (e:Addr):Inv (X.suite e) aa σ H s:=
 ⟨⟨I.ok.mod,I.ok.kind,I.ok.glob,I.ok.blt,I.ok.above,I.ok.inj,I.ok.has,I.ok.cab,fun z=>Bool.noConfusion (show false=true from z),I.ok.frames,I.ok.stk,I.ok.exf,I.ok.bs,I.ok.bsz,I.ok.noex,I.ok.exfs,I.ok.funs,I.ok.frf⟩,
 I.os,I.bare,I.base,I.loc,I.cell,I.free,I.freeC,I.pin,I.hok,I.len⟩
theorem Inv.suiteOut (hd:X.calm=true->X.A.handled=none) (I:Inv (X.suite e) aa σ H s):Inv X aa σ H s:=
 ⟨⟨I.ok.mod,I.ok.kind,I.ok.glob,I.ok.blt,I.ok.above,I.ok.inj,I.ok.has,I.ok.cab,hd,I.ok.frames,I.ok.stk,I.ok.exf,I.ok.bs,I.ok.bsz,I.ok.noex,I.ok.exfs,I.ok.funs,I.ok.frf⟩,
 I.os,I.bare,I.base,I.loc,I.cell,I.free,I.freeC,I.pin,I.hok,I.len⟩
theorem Inv.goes {i:Nat} {t':Nat} (I:Inv X aa σ H s) (hN:X.N.Nodup) (hi:X.N[i]?=some x) (hn:s.heap.Ns X.env.locals m)
  (hl:∀(j:Nat) (y:Str) (v:V),X.N[j]?=some y->σ[j]?=some (some v)->Vis X.env.scope y->∃u,RelV v u/\Look X.env s.heap m y u)
  (hn':h'.Ns X.env.locals (fun y=>if y=x then v else m y)) (hs:SameBut X.env.locals s.heap h'):Inv X aa (σ.set i none) H { s with heap:=h',toks:=t' }:=by
 have cne:=I.cne;obtain⟨oL,_,_,hoL,_⟩:=id hn;have tracked:HOk X.prog X.w H h':=fun b ob e=>by
  refine(I.hok b ob e).stay (fun c w' hc q=>(hs.2 c ?_).trans q) (fun _ q=>q) fun _ _ q=>q;rintro rfl;rcases hc with rfl|hc
  .rw[I.free] at e;cases e
  .rw[I.free] at hc;cases hc
 have neL:∀{b:Addr} {o:Obj},X.s₀.heap.get? b=some o->b≠X.env.locals:=fun e=>ne_of_lt (lt_of_lt_of_le (lt_size e) I.ok.above);refine⟨I.ok,I.os,I.bare,⟨fun b o e n hb hx=>?_,fun b o e n hb hx=>?_,I.base.free,fun b o e hx=>?_,I.base.tups,I.base.frzs,I.base.tbls⟩,⟨_,hn',fun j y v' e1 e2 e3=>?_⟩,fun y c e=>?_,I.free,I.freeC,fun p hp=>?_,tracked,by simpa using I.len⟩
 .exact(hs.2 b (neL e)).trans (I.base.keep b o e n hb hx)
 .obtain⟨sl,e1⟩:=I.base.slot b o e n hb hx;exact⟨sl,(hs.2 b (neL e)).trans e1⟩
 .obtain⟨o',e1⟩:=I.base.there b o e hx;exact⟨o',(hs.2 b (neL e)).trans e1⟩
 .by_cases hj:j=i
  .subst hj;have hj':j < σ.length:=by
    by_cases hz:j < σ.length
    .exact hz
    .rw[List.getElem?_eq_none (by simpa using hz)] at e2;cases e2
   rw[getElem?_set_self hj'] at e2;cases e2
  .rw[getElem?_set_ne (Ne.symm hj)] at e2;obtain⟨u',r',q⟩:=hl j y v' e1 e2 e3;refine⟨u',r',?_⟩;rcases q with ⟨k,e⟩|⟨k,c,e,z⟩
   .refine .inl ⟨k,?_⟩;have:y≠x:=fun e=>hj (Xu hN e1 (e ▸ hi));simp[this,e]
   .exact .inr ⟨k,c,e,z.sameBut hs (cne y c e)⟩
 .obtain⟨w',z⟩:=I.cell y c e;exact⟨w',z.sameBut hs (cne y c e)⟩
 .obtain⟨e,n,ne,nf,d⟩:=I.pin p hp;exact⟨(hs.2 p.1 ne).trans e,n,ne,nf,d⟩
theorem Inv.caught {o:Option (Nat×Option Addr)} (I:Inv X aa σ H s) (bh:X.stack=X.env::X.outer) (hfr:X.env.frame=some X.env.locals) (F:Fly X.prog X.w X.stack H s H' e cls s')
  (fl:FlyingW B X.stack e cls a0 s'.heap) (k1:∀b o,s.heap.get? b=some o->H b=none->b∉frs X.stack->B.get? b=some o) (kE:∀b o,s.heap.get? b=some o->b∉frs X.stack->∃o',B.get? b=some o')
  (k2:∀a u o,H' a=some u->s'.heap.get? a=some o->B.get? a=some o) (fl6:FlyingW B X.stack e cls a0 h6) (sm:s'.heap.UpToSlots h6) (ox:okX o h6 e) :
  Inv X aa σ (upd H' e (Su e cls o)) { s' with heap:=h6 }:=by
 obtain⟨hh,g,d,t,os'⟩:=s';obtain rfl:os'=s.os:=F.os;have frm:∀b o,hh.get? b=some o->b∈frs X.stack->∃sl,h6.get? b=some { o with slots:=sl }:=fun b o q hb=>by
  obtain⟨_,o',q',nf⟩:=fl.2.2.1.mem hb;have q':hh.get? b=some o':=q';rw[q] at q';cases q';exact sm b o q nf
 have nstk:∀b,b≠X.env.locals->b∉X.fs->b∉frs X.stack:=fun b h1 h2 z=>(mem_cons.mp (I.stkSub b z)).elim h1 h2;have ne:∀{b:Addr} {u:HO},H' b=some u->b≠e:=fun q=>Bv q F.fre;refine I.step (s:=s) (g':=g) (d':=d) (t':=t) (h':=h6) (ch:=[]) (fun _ z=>nomatch z) (fun b o h1 h2 _ q n=>fl6.1 b o (k1 b o q n (nstk b h1 h2))) (fun b o _ h2 _ q n=>?_) (fun b o _ q n=>?_) (fun b o _ q=>?_)
  (fun b xs q=>by have z:=F.un.tups b xs q;rw[Ax (ne z)];exact z) (fun b o u q=>by have z:=F.un.frzs b o u q;rw[Ax (ne z)];exact z) (fun b ps q=>?_) (fun m hm=>?_) (fun a u q=>?_) F.bare
 .have hb:=I.fsStk bh b h2;obtain⟨sl,q1⟩:=F.un.slot b o q n hb (by simp)
  obtain⟨sl',q2⟩:=frm b _ q1 hb;exact⟨sl',q2⟩
 .rw[Ax (by rintro rfl;rw[F.new] at q;cases q)]
  exact F.un.free b o q n (by simp)
 .by_cases hb:b∈frs X.stack
  .obtain⟨_,o'',q2,_⟩:=fl.2.2.1.mem hb;obtain⟨sl,q3⟩:=frm b o'' q2 hb;exact⟨_,q3⟩
  .obtain⟨o'',q2⟩:=kE b o q hb;exact⟨o'',fl6.1 b o'' q2⟩
 .obtain⟨m,z⟩:=F.un.tbls b ps q;exact⟨m,by rw[Ax (ne z)];exact z⟩
 .obtain⟨o,es,ep,ho,r⟩:=hm;have hb:=I.locStk bh hfr;obtain⟨sl,q1⟩:=F.un.slot X.env.locals o ho I.free hb (by simp)
  obtain⟨sl',q2⟩:=frm X.env.locals _ q1 hb;exact⟨_,es,ep,q2,r⟩
 .by_cases ha:a=e
  .subst ha;rw[Bm] at q;cases q;obtain⟨oe,vs,ho,hc,hd,_⟩:=fl6.first;refine⟨⟨⟨oe,vs,ho,hc,hd⟩,ox⟩,⟨oe,ho⟩,fun h1 h2 p k=>?_⟩;obtain⟨⟨o,vs',p1,p2,p3⟩,p4⟩:=p;refine⟨⟨o,vs',k o p1,p2,p3⟩,fun n od z=>?_⟩;obtain⟨o',vs2,z1,z2⟩:=p4 n od z;exact⟨o',vs2,k o' z1,z2⟩
  .rw[Ax ha] at q;refine(F.hok a u q).stay (fun b v hb z=>?_) (fun b z=>by rw[Ax (ne z)];exact z) fun b xs z=>by rw[Ax (ne z)];exact z
   rcases hb with rfl|hb
   .exact fl6.1 b v (k2 b u v q z)
   .exact fl6.1 b v (k2 b _ v hb z)
end
def Bdp (K:PySem.W.Frag) (C:Addr) (i:Nat) (tb:(St->XK)->TS) (th:TS):TS:=fun D σ H=>
 tb (fun σ' cls o H'=>exmOne K cls (.ref C)=some true/\∀ea,H' ea=none->th { nx:=fun σ2 H2=>D.nx (σ2.set i none) H2,rt:=D.rt,bk:=fun σ2 H2=>D.bk (σ2.set i none) H2,ct:=fun σ2 H2=>D.ct (σ2.set i none) H2 }
  (σ'.set i (some (.ref ea))) (upd H' ea (Su ea cls o))) D σ H
theorem Azk {i:Nat} (bh:X.stack=X.env::X.outer) (hfr:X.env.frame=some X.env.locals)
  (hN:X.N.Nodup) (hi:X.N[i]?=some n) (hn:X.env.scope.names.lookup n=some .local) (hg:Gl X x) (hm:X.mg x=some (.ref C)) (hd:(x==("__debug__":Str))=false:=by decide)
  (hb:∀(pn:List (Addr×Obj)) (xe:Value->Shared->Prop) (E:St->XK),Du (CXo X.prog X.w) (X.tryB pn xe) E->PSs (X.tryB pn xe) body (tb E))
  (hs:∀e,PSs (X.suite e) (b₀::suite) th) :
  PS X (.Try body [.ExceptHandler (some (.Name x np)) (some n) (b₀::suite) hpos] [] [] pos) (Bdp X.K C i tb th):=by
 intro aa s σ H D I h;have hkL:X.env.kindOf n=some .local:=hn;have hcls:(X.env.scope.kind==.class||(X.env.scope.kind==.module&&X.env.locals != X.env.globals))=false:=by rw[I.ok.kind];rfl
 refine wpAny_Try_except (wpAny_mono (hb (X.pn ++ aa) _ _ ?pass [] s σ H D I.tryIn h) (fun f s1 q=>?_) fun e s1 q=>q)
 case pass=>
  intro pins' σ1 H1 s1 e s2 I1 hcx;obtain⟨ea,cls,H2,o,rfl,F,ox,hx,q⟩:=hcx;have I1:Inv X aa σ1 H1 s1:=I1.tryOut;obtain⟨B,a0,fl,k1,kE,k2⟩:=F.fly;have fl':=fl;rw[bh] at fl';refine Azi (by rw[I1.ok.frames,bh]) hfr fl' ox fun h4 held ox4 sm4=>?_
  refine Aod held.1 held.2.1 held.2.2.1 held.2.2.2 ox4 fun h5 fl5 ox5 sm5=>?_;have bk5:∀b o,X.base.get? b=some o->h5.get? b=some o:=fun b o e=>fl5.1 b o (k1 b o (I1.bs b o e).1 (I1.bs b o e).2 fun m=>by
   have z:=(I1.stack.mem m).1;rw[e] at z;cases z)
  have K5:X.K.In h5:=I1.ok.mod.kin.keeps bk5;have LT:PySem.W.Looks (model X.prog X.w) h5 (typeOf (.ref ea)) cls:=by
   obtain⟨ob,ho,hc⟩:=fl5.there;exact hc ▸ (PySem.W.Looks.ld ho).andThen .now
  refine wpAny_handleBy_cons (codeAny_handlers_test ?_) (by intro q;cases q)
  refine Calls.Name_function_global I1.ok.kind hg (Calls.loadGlobal_global (by rw[I1.ok.glob];exact I1.mod.glob.keeps bk5) hm ?_) hd
  refine(PySem.W.exm_one K5 LT hx) _ _ _ _ (fun _ _ e=>e) ?_;show codeAny _ _ _ _ _;refine codeAny_handlers_suite_as (Aod fl5.1 fl5.2.1 fl5.2.2.1 fl5.2.2.2.at ox5 fun h6 fl6 ox6 sm6=>?_);have fl6':=fl6;rw[<-bh] at fl6';have I6:Inv X aa σ1 (upd H2 ea (Su ea cls o)) { s2 with heap:=h6 }:=I1.caught bh hfr F fl k1 kE k2 fl6' (sm4.trans (sm5.trans sm6)) ox6
  refine Xv I6 hN hi (.inl hn) (v:=.ref ea) rfl (fun s7 I7=>?_) (.inr hn);refine wpAny_mono (hs ea aa s7 _ _ _ (I7.suiteIn ea) (q ea F.fre)) (fun f s8 q8=>?_) fun _ _ z=>z.elim;have out:∀{σ8:St} {H8:Hp},Inv (X.suite ea) aa σ8 H8 s8->∀{Q':Flow->Shared->Prop},(∀s9,Inv X aa (σ8.set i none) H8 s9->Q' f s9)->
    wpAny (model X.prog X.w) X.A (do bindName X.env n .none;unbindBehindTheSuite X.env n hpos) (fun _ s9=>Q' f s9) X.xe s8:=fun {σ8 H8} J {Q'} k=>by
   have J:Inv X aa σ8 H8 s8:=J.suiteOut I.ok.hd;obtain⟨m,hm',hl⟩:=id J.loc;exact wpAny_nameGoes_keeps hkL hm' hcls fun h' v hn' hs'=>k _ (J.goes hN hi hm' hl hn' hs')
  cases f with
  |next=>obtain⟨σ8,H8,I8,z⟩:=q8;exact out I8 (Q':=SP X aa D) fun s9 I9=>⟨_,H8,I9,z⟩
  |brk=>obtain⟨σ8,H8,I8,z⟩:=q8;exact out I8 (Q':=SP X aa D) fun s9 I9=>⟨_,H8,I9,z⟩
  |cont=>obtain⟨σ8,H8,I8,z⟩:=q8;exact out I8 (Q':=SP X aa D) fun s9 I9=>⟨_,H8,I9,z⟩
  |ret u=>obtain⟨v,σ8,H8,I8,r8,z⟩:=q8;exact out I8 (Q':=SP X aa D) fun s9 I9=>⟨v,_,H8,I9,r8,z⟩
 .cases f with
  |next=>obtain⟨σ8,H8,I8,z⟩:=q;exact wpAny_execs_nil ⟨σ8,H8,I8.tryOut,z⟩
  |brk=>obtain⟨σ8,H8,I8,z⟩:=q;exact⟨σ8,H8,I8.tryOut,z⟩
  |cont=>obtain⟨σ8,H8,I8,z⟩:=q;exact⟨σ8,H8,I8.tryOut,z⟩
  |ret u=>obtain⟨v,σ8,H8,I8,r8,z⟩:=q;exact⟨v,σ8,H8,I8.tryOut,r8,z⟩
def Bdq (tb:(St->XK)->TS):TS:=tb fun _ _ _ _=>False
theorem Ati (hb:∀(pn:List (Addr×Obj)) (xe:Value->Shared->Prop) (E:St->XK),Du (CXo X.prog X.w) (X.tryB pn xe) E->PSs (X.tryB pn xe) body (tb E)) :
  PS X (.Try body (h0::hs) [] [] pos) (Bdq tb):=by
 intro aa s σ H D I h;refine wpAny_Try_except (wpAny_mono (hb (X.pn ++ aa) _ _ ?pass [] s σ H D I.tryIn h) (fun f s1 q=>?_) fun e s1 q=>q)
 case pass=>
  intro pins' σ1 H1 s1 e s2 I1 hcx;obtain⟨_,_,_,_,_,_,_,q⟩:=hcx;exact q.elim
 cases f with
 |next=>obtain⟨σ8,H8,I8,z⟩:=q;exact wpAny_execs_nil ⟨σ8,H8,I8.tryOut,z⟩
 |brk=>obtain⟨σ8,H8,I8,z⟩:=q;exact⟨σ8,H8,I8.tryOut,z⟩
 |cont=>obtain⟨σ8,H8,I8,z⟩:=q;exact⟨σ8,H8,I8.tryOut,z⟩
 |ret u=>obtain⟨v,σ8,H8,I8,r8,z⟩:=q;exact⟨v,σ8,H8,I8.tryOut,r8,z⟩
def Kl (cells:List (Str×Addr)):List (Str×NameKind)->List (Str×Addr)->List (Str×Addr)
 |[],acc=>acc
 |(n,k)::r,acc=>if (k==.free)=true then Kl cells r ((n,(cells.lookup n).getD 0)::acc) else Kl cells r acc
theorem Ag8 (h:∀x∈scope.names,x.2=.free->∃c,env.cells.lookup x.1=some c):closureFor scope env=pure (Kl env.cells scope.names []):=by
 have all:∀(l:List (Str×NameKind)) (acc:List (Str×Addr)),(∀x∈l,x.2=.free->∃c,env.cells.lookup x.1=some c)->
   (forIn l acc fun(x:Str×NameKind) (r:List (Str×Addr))=>match x with
    |(name,kind)=>if (kind==NameKind.free)=true then (do let a<-cellOf env name;pure (ForInStep.yield ((name,a)::r)):Sem (ForInStep (List (Str×Addr)))) else pure (ForInStep.yield r))=pure (Kl env.cells l acc):=by
  intro l;induction l with
  |nil=>intro acc _;rfl
  |cons y r ih=>
   intro acc hl;obtain⟨n,k⟩:=y;rw[forIn_cons];dsimp only;by_cases hk:(k==NameKind.free)=true
   .obtain⟨c,hc⟩:=hl (n,k) mem_cons_self (beq_iff_eq.mp hk);have hc:env.cells.lookup n=some c:=hc;have hco:cellOf env n=pure c:=by unfold cellOf;rw[hc]
    rw[if_pos hk,hco];simp only[pure_bind];rw[ih _ fun x hx=>hl x (mem_cons_of_mem _ hx)]
    conv=>rhs;unfold Kl
    rw[if_pos hk,hc];rfl
   .rw[if_neg hk];simp only[pure_bind];rw[ih _ fun x hx=>hl x (mem_cons_of_mem _ hx)]
    conv=>rhs;unfold Kl
    rw[if_neg hk]
 have q:=all scope.names [] h;unfold closureFor;dsimp only;rw[q];rfl
theorem Yd:∀(l:List (Str×NameKind)) (acc:List (Str×Addr)) (x:Str) (c:Addr),(∀y∈l,y.2=.free->∃c,cells.lookup y.1=some c)->(Kl cells l acc).lookup x=some c->
  acc.lookup x=some c\/cells.lookup x=some c
 |[],acc,x,c,_,h=>.inl h
 |(n,k)::r,acc,x,c,hl,h=>by
  unfold Kl at h;by_cases hk:(k==NameKind.free)=true
  .rw[if_pos hk] at h;obtain⟨d,hd⟩:=hl (n,k) mem_cons_self (beq_iff_eq.mp hk);have hd:cells.lookup n=some d:=hd;rcases Yd r _ x c (fun y hy=>hl y (mem_cons_of_mem _ hy)) h with q|q
   .rw[hd,getD_some,lookup_cons] at q;cases e:x==n with
    |true=>
     rw[e] at q;have z:x=n:=beq_iff_eq.mp e;subst z;exact .inr (hd.trans q)
    |false=>rw[e] at q;exact .inl q
   .exact .inr q
  .rw[if_neg hk] at h;exact Yd r acc x c (fun y hy=>hl y (mem_cons_of_mem _ hy)) h
theorem Sv:∀(l:List (Str×NameKind)) (acc:List (Str×Addr)) (x:Str),(∃c,acc.lookup x=some c)->∃c,(Kl cells l acc).lookup x=some c
 |[],acc,x,h=>h
 |(n,k)::r,acc,x,h=>by
  unfold Kl;by_cases hk:(k==NameKind.free)=true
  .rw[if_pos hk];refine Sv r _ x ?_;rw[lookup_cons];cases e:x==n with
   |true=>exact⟨_,rfl⟩
   |false=>exact h
  .rw[if_neg hk];exact Sv r acc x h
theorem Rb:∀(l:List (Str×NameKind)) (acc:List (Str×Addr)) (x:Str),(x,NameKind.free)∈l->∃c,(Kl cells l acc).lookup x=some c
 |(n,k)::r,acc,x,h=>by
  unfold Kl;rcases mem_cons.mp h with e|e
  .obtain⟨e1,e2⟩:=Prod.mk.inj e;subst e1;subst e2;rw[if_pos (by rfl)]
   refine Sv r _ x ⟨(cells.lookup x).getD 0,?_⟩;rw[lookup_cons,beq_self_eq_true]
  .by_cases hk:(k==NameKind.free)=true
   .rw[if_pos hk];exact Rb r _ x e
   .rw[if_neg hk];exact Rb r acc x e
theorem Acg (ao:∀y∈scope.names,y.2≠.cell) (h:(relabel scope env).names.lookup x=some .cell\/(relabel scope env).names.lookup x=some .free):(x,NameKind.free)∈scope.names:=by
 have go:∀(l:List (Str×NameKind)) (k:NameKind),(∀y∈l,y.2≠.cell)->k=.cell\/k=.free->
   (l.map fun(n,k)=>if (k==NameKind.free&&env.scope.kind==.function&&env.kindOf n==some .cell) then (n,NameKind.cell) else (n,k)).lookup x=some k->(x,NameKind.free)∈l:=by
  intro l;induction l with
  |nil=>intro k _ _ h;simp at h
  |cons y r ih=>
   intro k hc hk h;obtain⟨n,kk⟩:=y;have hkk:kk≠.cell:=hc (n,kk) mem_cons_self;rw[map_cons,lookup_cons] at h;dsimp only at h;by_cases hb:(kk==NameKind.free&&env.scope.kind==.function&&env.kindOf n==some .cell)=true
   .rw[if_pos hb] at h;dsimp only at h;cases e:x==n with
    |true=>
     have z:x=n:=beq_iff_eq.mp e;subst z;simp only[and_eq_true,beq_iff_eq] at hb;rw[<-hb.1.1];exact mem_cons_self
    |false=>
     rw[e] at h;exact mem_cons_of_mem _ (ih k (fun y hy=>hc y (mem_cons_of_mem _ hy)) hk h)
   .rw[if_neg hb] at h;dsimp only at h;cases e:x==n with
    |true=>
     have z:x=n:=beq_iff_eq.mp e;subst z;rw[e] at h;have h:kk=k:=Option.some.inj h;subst h;rcases hk with hk|hk
     .exact absurd hk hkk
     .rw[hk];exact mem_cons_self
    |false=>
     rw[e] at h;exact mem_cons_of_mem _ (ih k (fun y hy=>hc y (mem_cons_of_mem _ hy)) hk h)
 rcases h with h|h
 .exact go scope.names .cell ao (.inl rfl) h
 .exact go scope.names .free ao (.inr rfl) h
theorem Ach (h:scope.names.lookup x=some .free):(relabel scope env).names.lookup x=some .cell\/(relabel scope env).names.lookup x=some .free:=by
 show List.lookup x (scope.names.map fun(n,k)=>if (k==NameKind.free&&env.scope.kind==.function&&env.kindOf n==some .cell) then (n,NameKind.cell) else (n,k))=some .cell\/List.lookup x (scope.names.map fun(n,k)=>if (k==NameKind.free&&env.scope.kind==.function&&env.kindOf n==some .cell) then (n,NameKind.cell) else (n,k))=some .free
 revert h;generalize scope.names=l;intro h;induction l with
 |nil=>simp at h
 |cons y r ih=>
  obtain⟨n,kk⟩:=y;rw[map_cons,lookup_cons];dsimp only;rw[lookup_cons] at h;by_cases hb:(kk==NameKind.free&&env.scope.kind==.function&&env.kindOf n==some .cell)=true
  .rw[if_pos hb];dsimp only;cases e:x==n with
   |true=>exact .inl rfl
   |false=>rw[e] at h;exact ih h
  .rw[if_neg hb];dsimp only;cases e:x==n with
   |true=>rw[e] at h;exact .inr h
   |false=>rw[e] at h;exact ih h
def Cx.comp (X:Cx) (scope:Scope) (own:List Str) (cap:List Nat) (C:Addr) (s:Shared) (H:Hp) (ex:List Addr):Cx where
 prog:=X.prog
 w:=X.w
 K:=X.K
 mg:=X.mg
 base:=X.base
 A:=X.A
 N:=own ++ cap.map fun j=>X.N.getD j ""
 s₀:=s
 H₀:=H
 env:=compEnvC scope (Kl X.env.cells scope.names []) C X.env
 outer:=X.stack
 stack:=X.stack
 ex:=ex
 fn:=fun _=>false
 calm:=X.calm
 pn:=[]
 xe:=fun _ _=>False
def Aog (own:List Str) (cap:List Nat) (σ:St):St:=List.replicate own.length none ++ cap.map fun j=>σ.getD j none
def PTs (X:Cx) (ifs:List Expr) (t:TT):Prop:=
 ∀(aa:List (Addr×Obj)) (s:Shared) (σ:St) (H:Hp) (Q:Bool->Hp->Prop),Inv X aa σ H s->t σ H Q->
  wpAny (model X.prog X.w) X.A (forIn ifs true fun c r=>if r=true then do let ok<-isTrue c X.env (eval c X.env);pure (ForInStep.yield ok) else pure (ForInStep.yield r)) (TP X aa σ Q) X.xe s
def Ai4:TT:=fun _ H Q=>Q true H
theorem Atj:PTs X [] Ai4:=fun _ _ _ H _ I h=>wpAny_tests_nil ⟨H,I,h⟩
theorem Atk (h:PT X c t):PTs X [c] t:=fun aa s σ H Q I q=>wpAny_tests_one (h aa s σ H Q I q)
section
theorem Aci (I:Nat->Shared->Prop)
  (turn:∀n s,I n s->wpAny (model prog w) A (pyNext it) (fun r s₁=>match r with
   |none=>R (.ok .next) s₁
   |some v=>wpAny (model prog w) A (letOwnedTupleGo target it v) (fun _ s₁'=>wpAny (model prog w) A (assign target env v) (fun _ s₂=>
     wpAny (model prog w) A (forIn ifs true fun c r=>if r=true then do let ok<-isTrue c env (eval c env);pure (ForInStep.yield ok) else pure (ForInStep.yield r)) (fun ok s₃=>
      if ok=true then wpAny (model prog w) A (eval elt env) (fun x s₄=>
       wpAny (model prog w) A (call (.builtin "list.append") [acc,x]) (fun _ s₅=>∃m,m < n/\I m s₅) (fun _ _=>False) s₄) (fun _ _=>False) s₃
      else ∃m,m < n/\I m s₃) (fun _ _=>False) s₂) (fun _ _=>False) s₁') (fun _ _=>False) s₁) (fun _ _=>False) s)
  (n:Nat) (h:I n s):codeAny (model prog w) A (.compLoop (.ListComp elt [⟨target,iter,ifs,0⟩] scope pos) 0 it acc env) R s:=by
 refine codeAny_loop rfl I (fun n s hI=>?_) n h;show wpAny _ A ((compTurn (.ListComp elt [⟨target,iter,ifs,0⟩] scope pos) 0 it acc env).onRaise (fun x=>do noteFrame x env;theTreesLotGoes x)) _ _ s
 refine wpAny_noted ?_;rw[compTurn_list];refine wpAny_bind (wpAny_standAt (wpAny_bind (wpAny_mono (turn n s hI) (fun r s₁ h₁=>?_) fun _ _ z=>z.elim)));cases r with
 |none=>exact wpAny_pure h₁
 |some v=>
  refine wpAny_bind (wpAny_mono h₁ (fun _ s₁' h₁'=>?_) fun _ _ z=>z.elim);refine wpAny_bind (wpAny_mono h₁' (fun _ s₂ h₂=>wpAny_bind (wpAny_mono h₂ (fun ok s₃ h₃=>?_) fun _ _ z=>z.elim)) fun _ _ z=>z.elim);cases ok with
  |false=>exact wpAny_pure ⟨rfl,h₃⟩
  |true=>
   exact wpAny_bind (wpAny_bind (wpAny_mono h₃ (fun x s₄ h₄=>wpAny_bind (wpAny_mono h₄ (fun _ s₅ h₅=>wpAny_pure (wpAny_pure ⟨rfl,h₅⟩)) fun _ _ z=>z.elim)) fun _ _ z=>z.elim))
end
def Ai5 (J:It) (g:TG) (tt:TT) (te:TE) (D:Addr) (σ0:St) (H1:Hp) (Q:VK):Prop:=
 ∃W:Nat->Nat->List V->St->Hp->Prop,(∃m,W 0 m [] σ0 (upd H1 D (.lst [])))/\∀i m acc σ' H',W i m acc σ' H'->H' D=some (.lst acc)->
  (J.stop i H'/\Q (.ref D) H')\/(J.go i H'/\∀x H'',J.yld i H' x H''->g x σ' H'' fun σ2 H2=>tt σ2 H2 fun b H3=>if b=true then te σ2 H3 fun y H4=>
   H4 D=some (.lst acc)/\acc.length < sizeLine/\∃m',m' < m/\W (i+1) m' (acc ++ [y]) σ2 (upd H4 D (.lst (acc ++ [y])))
   else H3 D=some (.lst acc)/\∃m',m' < m/\W (i+1) m' acc σ2 H3)
def Aaz (wi:TI) (g:TG) (tt:TT) (te:TE) (own:List Str) (cap:List Nat):TE:=fun σ H Q=>wi σ H fun J H1=>∀D,H1 D=none->Ai5 J g tt te D (Aog own cap σ) H1 Q
theorem Aa0 {cap:List Nat} (hc:X.calm=true) (hE:X.env.scope=es)
  (hi:PI X tg iter wi) (hg:∀C s H ex,PG (X.comp scope own cap C s H ex) tg g) (ht:∀C s H ex,PTs (X.comp scope own cap C s H ex) ifs tt) (he:∀C s H ex,PE (X.comp scope own cap C s H ex) elt te)
  (hcap:∀j∈cap,∃x,X.N[j]?=some x/\scope.names.lookup x=some .free) (az:scope.kind=.function:=by rfl) (ao:∀y∈scope.names,y.2≠.cell:=by decide)
  (au:∀y∈scope.names,y.2=.local->scope.names.lookup y.1=some .local:=by decide)
  (hfree':∀y∈scope.names,y.2=.free->(es.names.lookup y.1=some .cell\/es.names.lookup y.1=some .free):=by decide +kernel) (hs:∀x,foldedSetIterable iter X.env x=pure x:=by intro _;rfl)
  (I:Inv X aa σ H s) (h:Aaz wi g tt te own cap σ H Q)
  (fin:∀(D C:Addr) (s6:Shared) (H5:Hp) (m:Str->Option Value),(∀h',SameBut C s6.heap h'->Inv X aa σ H5 { s6 with heap:=h' })->s6.heap.Ns C m->Xx X aa H5 C->Q (.ref D) H5->
   compPost (model X.prog X.w) X.A X.xe use Q' (.ref D) C (.ok .next) s6) :
  wpAny (model X.prog X.w) X.A (comprehension (.ListComp elt [⟨tg,iter,ifs,0⟩] scope pos) scope X.env p0 (newList []) false (eval iter X.env) use) Q' X.xe s:=by
 subst hE;have bc:∀y∈scope.names,y.2=.free->(X.env.kindOf y.1=some .cell\/X.env.kindOf y.1=some .free):=hfree';have hfr:∀x∈scope.names,x.2=.free->∃c,X.env.cells.lookup x.1=some c:=fun x hx hk=>I.ok.has x.1 (bc x hx hk);refine wpAny_comprehension_free (use:=use) rfl hs (Ag8 hfr) az au (thn (hi aa s σ H _ I h) fun v s1 h1=>thn h1 fun itv s2 h2=>?_);obtain⟨it,fp,tn,J,H2,rfl,I2,T,st2,f2,q⟩:=h2;have hD2:H2 s2.heap.objs.size=none:=I2.hok.fresh (le_refl _);obtain⟨W,⟨m0,w0⟩,turn⟩:=q s2.heap.objs.size hD2;refine wpAny_newObj_type ?_;have I3:=I2.lnew (ys:=[]) (its:=[]) (t':=s2.toks) .nil (zero_le _);generalize hs3:({ s2 with heap:=s2.heap.push { cls:=.type "list",data:=.seq ([]:List Value).toArray } }:Shared)=s3 at I3 ⊢
 have fp3:∀b∈fp,∃o,s3.heap.get? b=some o/\∀v,o.data≠.cell v:=fun b hb=>by
  obtain⟨o,e,d⟩:=T.obj _ _ st2 b hb;exact⟨o,by rw[<-hs3];exact get?_push_of_some _ e,d⟩
 have st3:tn 0 s3.heap:=T.keep _ _ _ st2 fun b _ o e=>by rw[<-hs3];exact get?_push_of_some _ e
 have hDl:s2.heap.objs.size < s3.heap.objs.size:=by rw[<-hs3];simp[size_push]
 have fpD:∀b∈fp,b≠s2.heap.objs.size:=fun b hb z=>by
  obtain⟨o,e,_⟩:=T.obj _ _ st2 b hb;exact absurd (lt_size e) (by rw[z];exact lt_irrefl _)
 refine wpAny_newFunctionEnv ao (by intro y hy;simp at hy) (fun h₁ hns₁ hsb₁=>?_) az
 generalize hC:s3.heap.objs.size=C at hns₁ hsb₁ hDl ⊢
 have old:∀b o,s3.heap.get? b=some o->h₁.get? b=some o:=fun b o e=>hsb₁.extBut b o (by rw[<-hC];exact ne_of_lt (lt_size e)) (get?_push_of_some _ e)
 have ltC:∀{b:Addr} {o:Obj},s3.heap.get? b=some o->b≠C:=fun e=>by rw[<-hC];exact ne_of_lt (lt_size e)
 have cellIn:∀x c,(Kl X.env.cells scope.names []).lookup x=some c->X.env.cells.lookup x=some c:=fun x c e=>by
  rcases Yd scope.names [] x c hfr e with z|z
  .simp at z
  .exact z
 have fpX:∀b∈fp,Xx X aa (upd H2 s2.heap.objs.size (.lst [])) b:=fun b hb=>⟨by rw[Ax (fpD b hb)];exact(f2 b hb).1,(f2 b hb).2⟩
 have I4:Inv (X.comp scope own cap C s3 (upd H2 s2.heap.objs.size (.lst [])) fp) [] (Aog own cap σ) (upd H2 s2.heap.objs.size (.lst [])) { s3 with heap:=h₁,toks:=s3.toks+([]:List (Str×Value)).length }:=by
  refine⟨⟨I.ok.mod,az,I.ok.glob,I.ok.blt,le_of_eq hC,fun x y c h1 h2=>I.ok.inj x y c (cellIn x c h1) (cellIn y c h2),fun x hx=>Rb _ _ x (Acg ao hx),fun x c z=>absurd z (by show ¬ (false=true);decide),
   I.ok.hd,I.ok.frames,.inl rfl,fun b hb=>⟨?_,fun x c e=>(fpX b hb).2.2.2.2.1 x c (cellIn x c e)⟩,I3.bs,le_trans I3.ok.bsz I3.sz,fun b o e hb=>?_,fun b hb z=>?_,I3.stack,I3.stkFree⟩,
   rfl,I3.bare,Un.kept old,⟨_,hns₁,fun i x v e1 e2 e3=>?_⟩,fun x c e=>?_,?_,fun x c e=>I3.freeC x c (cellIn x c e),fun p hp=>absurd (show p∈([]:List (Addr×Obj)) ++ [] from hp) (by simp),I3.hok.kept old,?_⟩
  .obtain⟨o,e,_⟩:=fp3 b hb;exact ltC e
  .rcases(fpX b hb).2.2.2.1 with z|z
   .exact I.ok.noex b o e z
   .exact absurd (lt_of_lt_of_le (lt_size e) (le_trans I.ok.bsz z)) (lt_irrefl _)
  .exact(mem_cons.mp (I3.stkSub b z)).elim (fpX b hb).2.1 (fpX b hb).2.2.1
  .
   have hlen:(List.replicate own.length (none:Option V)).length=own.length:=length_replicate;by_cases hi:i < own.length
   .have e2:(List.replicate own.length (none:Option V) ++ cap.map fun j=>σ.getD j none)[i]?=some (some v):=e2;rw[getElem?_append_left (by rw[hlen];exact hi),List.getElem?_replicate] at e2
    split at e2 <;> cases e2
   .have e2:(List.replicate own.length (none:Option V) ++ cap.map fun j=>σ.getD j none)[i]?=some (some v):=e2;have e1:(own ++ cap.map fun j=>X.N.getD j "")[i]?=some x:=e1;rw[getElem?_append_right (by rw[hlen];omega),getElem?_map,hlen] at e2
    rw[getElem?_append_right (by omega),getElem?_map] at e1
    cases ej:cap[i - own.length]? with
    |none=>rw[ej] at e1;cases e1
    |some j=>
     rw[ej] at e1 e2;obtain⟨y,hy,hf⟩:=hcap j (mem_of_getElem? ej);have e1:X.N.getD j ""=x:=Option.some.inj e1;have e2:σ.getD j none=some v:=Option.some.inj e2;rw[getD_eq_getElem?_getD,hy] at e1;have e1:y=x:=e1;subst e1;have e2':σ[j]?=some (some v):=by
      rw[getD_eq_getElem?_getD] at e2;cases z:σ[j]? with
      |none=>rw[z] at e2;cases e2
      |some o=>rw[z] at e2;exact congrArg some e2
     have hmem:(y,NameKind.free)∈scope.names:=by
      exact PySem.mem_of_lookup hf
     obtain⟨m,hn,hl⟩:=I3.loc;have hv:Vis X.env.scope y:=.inr (bc _ hmem rfl);obtain⟨u,ru,lk⟩:=hl j y v hy e2' hv;refine⟨u,ru,.inr ⟨Ach hf,?_⟩⟩;rcases lk with ⟨k1,_⟩|⟨_,c,hcc,hz⟩
     .rcases bc _ hmem rfl with k2|k2 <;> (have k2:X.env.kindOf y=_:=k2;rw[k1] at k2;cases k2)
     .obtain⟨c',hc'⟩:=Rb (cells:=X.env.cells) scope.names [] y hmem;have ec:c=c':=Option.some.inj (hcc.symm.trans (cellIn y c' hc'));rw[<-ec] at hc';obtain⟨oc,ho,hd⟩:=hz;exact⟨c,hc',oc,old c oc ho,hd⟩
  .obtain⟨v,o,ho,hd⟩:=I3.cell x c (cellIn x c e);exact⟨v,o,old c o ho,hd⟩
  .show upd H2 s2.heap.objs.size (.lst []) C=none;rw[<-hC];exact I3.hok.fresh (le_refl _)
  .show (List.replicate own.length (none:Option V) ++ cap.map fun j=>σ.getD j none).length=(own ++ cap.map fun j=>X.N.getD j "").length;simp
 have fpC:∀{H':Hp},(∀b∈fp,H' b=none)->∀b∈fp,Xx (X.comp scope own cap C s3 (upd H2 s2.heap.objs.size (.lst [])) fp) [] H' b:=fun hn b hb=>
  ⟨hn b hb,(by obtain⟨o,e,_⟩:=fp3 b hb;exact ltC e),fun z=>(mem_cons.mp (I3.stkSub b z)).elim (fpX b hb).2.1 (fpX b hb).2.2.1,.inl hb,fun x c e=>(fpX b hb).2.2.2.2.1 x c (cellIn x c e),fun p hp=>absurd (show p∈([]:List (Addr×Obj)) ++ [] from hp) (by simp)⟩
 have loop:codeAny (model X.prog X.w) X.A (.compLoop (.ListComp elt [⟨tg,iter,ifs,0⟩] scope pos) 0 (.ref it) (.ref s2.heap.objs.size) (compEnvC scope (Kl X.env.cells scope.names []) C X.env))
   (compPost (model X.prog X.w) X.A X.xe use Q' (.ref s2.heap.objs.size) C) { s3 with heap:=h₁,toks:=s3.toks+([]:List (Str×Value)).length }:=by
  refine Aci (fun n s'=>∃i acc σ' H',Inv (X.comp scope own cap C s3 (upd H2 s2.heap.objs.size (.lst [])) fp) [] σ' H' s'/\tn i s'.heap/\(∀b∈fp,H' b=none)/\H' s2.heap.objs.size=some (.lst acc)/\W i n acc σ' H') ?_ m0
   ⟨0,[],_,_,I4,T.keep _ _ _ st3 fun b _ o e=>old b o e,fun b hb=>(fpX b hb).1,Bm,w0⟩
  rintro n s5 ⟨i,acc,σ5,H5,I5,st5,fr5,hD5,w5⟩;rcases turn i n acc σ5 H5 w5 hD5 with ⟨stop,qn⟩|⟨go,step⟩
  .refine thn (T.done (X.comp scope own cap C s3 (upd H2 s2.heap.objs.size (.lst [])) fp) rfl rfl rfl hc i [] s5 σ5 H5 _ I5 (fpC fr5) st5 stop) fun r s6 ⟨hr,I6⟩=>?_;subst hr;obtain⟨m,hn,_⟩:=id I6.loc;have hCs:X.s₀.heap.objs.size<=C:=by rw[<-hC];exact I3.sz
   have ltS:∀{b:Addr} {o:Obj},s3.heap.get? b=some o->b≠C:=ltC;refine fin _ C s6 H5 m (fun h' hsb=>?_) hn ⟨I6.free,?_,?_,.inr hCs,?_,?_⟩ qn
   rotate_left
   .obtain⟨_,⟨o,_,_,ho,_⟩,_⟩:=I3.loc;exact(ltS ho).symm
   .intro z;obtain⟨o',e1⟩:=I3.base.there C _ (I3.ok.funs.mem z).2.choose_spec.1 (fun w=>I3.ok.exfs C w z)
    exact ltS e1 rfl
   .intro x c e;obtain⟨_,o,ho,_⟩:=I3.cell x c e;exact ltS ho
   .intro p hp;exact ltS (I3.pin p hp).1
   have neC:∀{b:Addr} {o:Obj},s3.heap.get? b=some o->b≠C:=ltC;have B:=I6.base;refine I3.call' (s':={ s6 with heap:=h' }) (ch:=fp) I6.os ⟨fun b o e n hb hx=>?_,fun b o e n hb hx=>?_,B.free,fun b o e hx=>?_,B.tups,B.frzs,B.tbls⟩ (fun a u e=>?_) I6.bare fun b hb=>⟨(fpX b hb).2.2.2.1,(fpX b hb).2.1,(fpX b hb).2.2.2.2.1,(fpX b hb).2.2.2.2.2⟩
   .exact(hsb.2 b (neC e)).trans (B.keep b o e n hb hx)
   .obtain⟨sl,e1⟩:=B.slot b o e n hb hx;exact⟨sl,(hsb.2 b (neC e)).trans e1⟩
   .obtain⟨o',e1⟩:=B.there b o e hx;exact⟨o',(hsb.2 b (neC e)).trans e1⟩
   .refine(I6.hok a u e).stay (fun b v hb z=>(hsb.2 b ?_).trans z) (fun _ z=>z) fun _ _ z=>z;rintro rfl;have f0:H5 b=none:=I6.free;rcases hb with rfl|hb
    .rw[f0] at e;cases e
    .rw[f0] at hb;cases hb
  .refine thn (T.item (X.comp scope own cap C s3 (upd H2 s2.heap.objs.size (.lst [])) fp) rfl rfl rfl hc i [] s5 σ5 H5 _ I5 (fpC fr5) st5 go) fun r s6 ⟨u,hr,h6⟩=>?_;subst hr;refine thn h6 fun _ s7 ⟨x,H7,I7,r7,y7,st7,fr7⟩=>?_;have I7':=I7.pinned (fpC fr7) (T.obj _ _ st7);refine thn (hg _ _ _ _ _ s7 σ5 H7 x u _ I7' r7 (step x H7 y7)) fun _ s8 ⟨σ8,H8,I8,q8⟩=>?_;refine thn (ht _ _ _ _ _ s8 σ8 H8 _ I8 q8) fun b s9 ⟨H9,I9,q9⟩=>?_;have again:∀{s':Shared} {H':Hp} {acc':List V} {m':Nat},Inv (X.comp scope own cap C s3 (upd H2 s2.heap.objs.size (.lst [])) fp) ([] ++ Xy fp s7.heap) σ8 H' s'->H' s2.heap.objs.size=some (.lst acc')->m' < n->W (i+1) m' acc' σ8 H'->
     ∃m,m < n/\∃i acc σ' H',Inv (X.comp scope own cap C s3 (upd H2 s2.heap.objs.size (.lst [])) fp) [] σ' H' s'/\tn i s'.heap/\(∀b∈fp,H' b=none)/\H' s2.heap.objs.size=some (.lst acc)/\W i m acc σ' H':=fun {s' H' acc' m'} J hD hm hw=>by
    refine⟨m',hm,i+1,acc',σ8,H',J.unpinned,T.keep _ _ _ st7 fun b hb o e=>(J.pin (b,o) (mem_append_right _ (mem_append_right _ (Kg hb e)))).1,fun b hb=>?_,hD,hw⟩;obtain⟨o,e,d⟩:=T.obj _ _ st7 b hb;exact(J.pin (b,o) (mem_append_right _ (mem_append_right _ (Kg hb e)))).2.1
   cases b with
   |false=>
    rw[if_neg Bool.false_ne_true] at q9 ⊢
    obtain⟨hD9,m',hm,hw⟩:=q9;exact again I9 hD9 hm hw
   |true=>
    rw[if_pos rfl] at q9 ⊢
    refine thn (he _ _ _ _ _ s9 σ8 H9 _ I9 q9) fun uy s10 ⟨y,H10,I10,r10,hD10,hl10,m',hm,hw⟩=>?_;refine thn (Ak5 (X:=X.comp scope own cap C s3 (upd H2 s2.heap.objs.size (.lst [])) fp) _ s10 σ8 H10 (.ref s2.heap.objs.size) [y] (.ref s2.heap.objs.size) [uy]
     (fun _ H'=>H'=upd H10 s2.heap.objs.size (.lst (acc ++ [y]))) I10 rfl (.cons r10 .nil) ⟨_,acc,y,rfl,rfl,hD10,hl10,rfl⟩) fun _ s11 ⟨_,H11,I11,_,e11⟩=>?_
    subst e11;exact again I11 Bm hm hw
 exact codeAny_compStart_list loop (T.self _ 0 _ _ _ (T.keep _ _ _ st3 fun b _ o e=>old b o e) loop)
theorem Atl {cap:List Nat} (hc:X.calm=true) (hE:X.env.scope=es)
  (hi:PI X tg iter wi) (hg:∀C s H ex,PG (X.comp scope own cap C s H ex) tg g) (ht:∀C s H ex,PTs (X.comp scope own cap C s H ex) ifs tt) (he:∀C s H ex,PE (X.comp scope own cap C s H ex) elt te)
  (hcap:∀j∈cap,∃x,X.N[j]?=some x/\scope.names.lookup x=some .free) (az:scope.kind=.function:=by rfl) (ao:∀y∈scope.names,y.2≠.cell:=by decide)
  (au:∀y∈scope.names,y.2=.local->scope.names.lookup y.1=some .local:=by decide)
  (hfree':∀y∈scope.names,y.2=.free->(es.names.lookup y.1=some .cell\/es.names.lookup y.1=some .free):=by decide +kernel) (hs:∀x,foldedSetIterable iter X.env x=pure x:=by intro _;rfl) :
  PE X (.ListComp elt [⟨tg,iter,ifs,0⟩] scope pos) (Aaz wi g tt te own cap):=by
 intro aa s σ H Q I h;rw[eval_ListComp];exact Aa0 (use:=none) hc hE hi hg ht he hcap az ao au hfree' hs I h fun D C s6 H5 m J hn _ qn=>⟨m,hn,fun h' hsb=>⟨.ref D,H5,J h' hsb,rfl,qn⟩⟩
theorem Atm {i:Nat} {cap:List Nat} (hc:X.calm=true) (hE:X.env.scope=es)
  (hi:PI X tg iter wi) (hg:∀C s H ex,PG (X.comp scope own cap C s H ex) tg g) (ht:∀C s H ex,PTs (X.comp scope own cap C s H ex) ifs tt) (he:∀C s H ex,PE (X.comp scope own cap C s H ex) elt te)
  (hcap:∀j∈cap,∃x,X.N[j]?=some x/\scope.names.lookup x=some .free) (az:scope.kind=.function) (ao:∀y∈scope.names,y.2≠.cell)
  (au:∀y∈scope.names,y.2=.local->scope.names.lookup y.1=some .local)
  (hfree':∀y∈scope.names,y.2=.free->(es.names.lookup y.1=some .cell\/es.names.lookup y.1=some .free)) (hs:∀x,foldedSetIterable iter X.env x=pure x)
  (hy:PG X (.Name y py) (Mp i)) (hsw:swapsWith (.ListComp elt [⟨tg,iter,ifs,0⟩] scope pos) (some (.Name y py)) spos.line X.env=pure true) :
  PS X (.Assign [.Name y py] (.ListComp elt [⟨tg,iter,ifs,0⟩] scope pos) spos) (Asw (Aaz wi g tt te own cap) (Mp i)):=by
 intro aa s σ H D I h;rw[exec_Assign_Name_used _ _ _ _ hsw];refine wpAny_bind (wpAny_standAt (wpAny_bind ?_));show wpAny _ X.A (do let _<-comprehension (.ListComp elt [⟨tg,iter,ifs,0⟩] scope pos) scope X.env _ (newList []) false (eval iter X.env) (some (assign (.Name y py) X.env))) _ _ s
 refine wpAny_bind (wpAny_mono (Aa0 (Q':=fun _ s'=>SP X aa D .next s') hc hE hi hg ht he hcap az ao au hfree' hs I h fun D' C s6 H5 m J hn fp qn=>?_) (fun _ s' q=>wpAny_pure (wpAny_pure q)) fun _ _ z=>z);show wpAny _ _ (assign (.Name y py) X.env (.ref D')) _ _ _;have I6:Inv X aa σ H5 s6:=J s6.heap ⟨rfl,fun _ _=>rfl⟩;obtain⟨oC,es',ep',hoC,hdC,rC⟩:=id hn;have nc:∀v,oC.data≠.cell v:=fun v z=>by rw[hdC] at z;cases z
 have I6p:=I6.pinned (fp:=[C]) (fun b hb=>by obtain rfl:=mem_singleton.mp hb;exact fp) (fun b hb=>by obtain rfl:=mem_singleton.mp hb;exact⟨oC,hoC,nc⟩)
 refine thn (hy _ s6 σ H5 (.ref D') (.ref D') _ I6p rfl qn) fun _ s7 ⟨σ7,H7,I7,q7⟩=>?_;have pC:=I7.pin (C,oC) (mem_append_right _ (mem_append_right _ (Kg (mem_singleton.mpr rfl) hoC)));have hC7:s7.heap.get? C=some oC:=pC.1;have I7:=I7.unpinned;refine⟨m,⟨oC,es',ep',hC7,hdC,rC⟩,fun h' hsb=>⟨σ7,H7,?_,q7⟩⟩;have neC:∀{b:Addr} {u:HO},H7 b=some u->b≠C:=fun q=>Bv q pC.2.1;refine I7.step (s:=s7) (g':=s7.gens) (d':=s7.drawn) (t':=s7.toks) (h':=h') (ch:=[C]) (fun b hb=>by obtain rfl:=mem_singleton.mp hb;exact⟨fp.2.2.2.1,fp.2.1,fp.2.2.2.2.1,fp.2.2.2.2.2⟩)
  (fun b o _ _ hb q _=>(hsb.2 b (fun z=>hb (mem_singleton.mpr z))).trans q) (fun b o _ _ hb q _=>⟨o.slots,(hsb.2 b (fun z=>hb (mem_singleton.mpr z))).trans q⟩) (fun _ _ _ _ q=>q)
  (fun b o hb q=>⟨o,(hsb.2 b (fun z=>hb (mem_singleton.mpr z))).trans q⟩) (fun _ _ q=>q) (fun _ _ _ q=>q) (fun b ps q=>⟨#[],by rw[append_empty];exact q⟩) (fun m' hm=>?_) (fun a u q=>?_) I7.bare
 .obtain⟨o,e1,e2,ho,r⟩:=hm;exact⟨o,e1,e2,(hsb.2 _ (fun z=>fp.2.1 z.symm)).trans ho,r⟩
 .refine(I7.hok a u q).stay (fun b v hb z=>(hsb.2 b ?_).trans z) (fun _ z=>z) fun _ _ z=>z;rcases hb with rfl|hb
  .exact neC q
  .exact neC hb
mutual
inductive DV (H:Hp):V->PyData->Prop
 |non:DV H .non .none
 |bl (b:Bool):DV H (.bl b) (.bool b)
 |int (i:Int):DV H (.int i) (.int i)
 |str (x:Str):DV H (.str x) (.str x)
 |lst {a:Addr} {vs:List V} {ds:List PyData}:H a=some (.lst vs)->DVs H vs ds->DV H (.ref a) (.list ds)
 |tup {a:Addr} {vs:List V} {ds:List PyData}:H a=some (.tup vs)->DVs H vs ds->DV H (.ref a) (.tuple ds)
 |dct {a:Addr}:H a=some (.dK [])->DV H (.ref a) (.dict [])
inductive DVs (H:Hp):List V->List PyData->Prop
 |nil:DVs H [] []
 |cons {v:V} {d:PyData} {vs:List V} {ds:List PyData}:DV H v d->DVs H vs ds->DVs H (v::vs) (d::ds)
end
section
variable {X:Cx} {aa:List (Addr×Obj)} {σ:St} {H:Hp} {s:Shared}
mutual
theorem DV.reads (I:Inv X aa σ H s):∀{v:V} {d:PyData} {u:Value},DV H v d->RelV v u->∃as,Reads s.heap u d as
 |_,_,_,.non,r=>by cases r;exact⟨_,.none⟩
 |_,_,_,.bl b,r=>by cases r;exact⟨_,.bool b⟩
 |_,_,_,.int i,r=>by obtain⟨t,rfl⟩:=r;exact⟨_,.int i t⟩
 |_,_,_,.str x,r=>by obtain⟨t,rfl⟩:=r;exact⟨_,.str x t⟩
 |_,_,_,.lst h q,r=>by
  cases r;obtain⟨_,its,n,rv,e⟩:=I.hok _ _ h;obtain⟨as,ra⟩:=DVs.reads I q rv;exact⟨_,.list e rfl rfl (by simpa using ra)⟩
 |_,_,_,.tup h q,r=>by
  cases r;obtain⟨_,its,rv,o,e,c,n,d⟩:=I.hok _ _ h;obtain⟨as,ra⟩:=DVs.reads I q rv;exact⟨_,.tuple e c d (by simpa using ra)⟩
 |_,_,_,.dct h,r=>by
  cases r;obtain⟨_,_,vs,rv,o,es,ep,e,x,d,_,p,_⟩:=I.hok _ _ h;cases rv;have z:es.toList=[]:=by
   revert p;generalize es.toList=l;intro p;cases p;rfl
  exact⟨_,.dict e x.1 d (by rw[z];exact .nil) (by rw[z];exact .nil)⟩
theorem DVs.reads (I:Inv X aa σ H s):∀{vs:List V} {ds:List PyData} {us:List Value},DVs H vs ds->Vals vs us->∃as,ReadsAll s.heap us ds as
 |_,_,_,.nil,.nil=>⟨_,.nil⟩
 |_,_,_,.cons h q,.cons r t=>by
  obtain⟨as,ra⟩:=DV.reads I h r;obtain⟨bs,rb⟩:=DVs.reads I q t;exact⟨_,.cons ra rb⟩
end
end
def Bf0:R2:=fun x y H Q=>∃d e,DV H x d/\DV H y e/\SeqAt.shaped d=true/\SeqAt.shaped e=true/\Q (.bl (PyData.eqv d e)) H
def Bf1:R2:=fun x y H Q=>∃d e,DV H x d/\DV H y e/\SeqAt.shaped d=true/\SeqAt.shaped e=true/\Q (.bl (!PyData.eqv d e)) H
section
variable {X:Cx}
theorem Azl (hu:X.A.units+64 < cLine):OpR X (compareOp .Eq) Bf0:=by
 intro aa s σ H x y v u Q I rx ry h;obtain⟨d,e,hd,he,sd,se,q⟩:=h;obtain⟨as,ra⟩:=hd.reads I rx;obtain⟨bs,rb⟩:=he.reads I ry;exact eq_dataH ra rb sd se hu ⟨.bl _,H,I,rfl,q⟩
theorem Azm (hu:X.A.units+64 < cLine):OpR X (compareOp .NotEq) Bf1:=by
 intro aa s σ H x y v u Q I rx ry h;obtain⟨d,e,hd,he,sd,se,q⟩:=h;obtain⟨as,ra⟩:=hd.reads I rx;obtain⟨bs,rb⟩:=he.reads I ry;exact ne_dataH ra rb sd se hu ⟨.bl _,H,I,rfl,q⟩
variable {e:Expr} {es:List Expr} {d:PyData} {ds:List PyData} {pos:Pos}
end
structure W8 (K:PySem.W.Frag) (C:Addr):Prop where
 cls:(PySem.W.clsIn K C).isSome=true
 ga:PySem.W.findIn K (.ref C) "__getattribute__"=some (some (.builtin "BaseException.__getattribute__"))
 gn:PySem.W.findIn K (.ref C) "__getattr__"=some none
 cl:PySem.W.findIn K (.ref C) "__class__"=some (some (.builtin "object.__class__"))
 mb:PySem.W.mroIn K C (.type "BaseException")=some true
 mo:PySem.W.mroIn K C (.type "object")=some true
section
variable {prog:Program} {w:World} {A:Around} {E:Value->Shared->Prop} {h:Heap} {g:Array GenState} {d:Drawn} {t:Nat} {os:OsState} {a C:Addr} {o:Obj} {K:PySem.W.Frag}
open PySem.W in
theorem Ag9 (KX:K.In h) (F1:W8 K C) (hx:h.get? a=some o) (hc:o.cls=.ref C) (hq:R (.ok (.ret (.ref C))) ⟨h,g,d,t,os⟩) :
  codeAny (model prog w) A (.call (.builtin "getset_descriptor.__get__") ⟨[.builtin "object.__class__",.ref a,.ref C],[]⟩) R ⟨h,g,d,t,os⟩:=by
 have hT5:(⟨h,g,d,t,os⟩:Shared).TypeIs (.builtin "object.__class__") "getset_descriptor":=F.typeOf_object_class;have L8:Looks (model prog w) h (isSubtype (.ref C) (.type (".".intercalate ("object.__class__".cutAt '.').dropLast))) true:=by rw[F.owner_object_class];exact looks_mroIn KX F1.mo
 refine codeAny_call_builtin F.slot_gs_get.plain F.entry_gs_get (F.slot_gs_get.check _ _ _ _ _ _ _ _ hT5 (F.args_gs_get _ _ _) ?_)
 repeat (any_goals (first|assumption|(with_reducible refine wpAny_loadPart_at hx ?_;rw[hc])|with_reducible refine L8.at ?_|wp_step))
 refine⟨Code.quiet_builtin _ (by decide +kernel),codeAny_builtin F.entry_object_class ?_⟩
 repeat (any_goals (first|assumption|(with_reducible refine wpAny_loadPart_at hx ?_;rw[hc])|wp_step))
open PySem.W in
theorem Ub (KX:K.In h) (F1:W8 K C) (hx:h.get? a=some o) (hc:o.cls=.ref C) (hq:Q () ⟨h,g,d,t,os⟩) :
  wpAny M A (checkBuiltinCall "BaseException.__getattribute__" ⟨[.ref a,nameV],[]⟩) Q E ⟨h,g,d,t,os⟩:=by
 have hk:builtinKind "BaseException.__getattribute__"=some .slot:=by decide +kernel
 have hsplit:splitId "BaseException.__getattribute__"=some ("BaseException","__getattribute__"):=by decide +kernel
 have L8:Looks M h (isSubtype (.ref C) (.type "BaseException")) true:=looks_mroIn KX F1.mb;have ha:=F.args_bexc_ga (.ref a) nameV;simp only[checkBuiltinCall,hk,hsplit];refine wpAny_bind ?_
 .unfold isInstance
  repeat (first|(with_reducible refine wpAny_loadPart_at hx ?_;rw[hc])|with_reducible refine L8.at ?_|wp_step)
  exact hq
open PySem.W in
theorem Acj {tk:Tok} (KX:K.In h) (F1:W8 K C) (hx:h.get? a=some o) (hc:o.cls=.ref C) (hq:Q (.done (.ret (.ref C))) ⟨h,g,d,t,os⟩) :
  wpAny (model prog w) A (Builtin.«object.__getattribute__» ⟨[.ref a,.str "__class__" tk],[]⟩) Q E ⟨h,g,d,t,os⟩:=by
 have hT5:(⟨h,g,d,t,os⟩:Shared).TypeIs (.builtin "object.__class__") "getset_descriptor":=F.typeOf_object_class;have L4:Looks (model prog w) h (typeLookup (.ref C) "__class__") (some (.builtin "object.__class__")):=looks_findIn KX F1.cl;have f5:=F.typeOf_object_class;have f6:=F.slot_gs_get.lookup;have f7:=F.slot_gs_set.lookup
 repeat (any_goals (first|assumption|(with_reducible refine wpAny_loadPart_at hx ?_;rw[hc])|with_reducible refine L4.at ?_|wp_step))
 refine Ag9 KX F1 hx hc ?_
 repeat (any_goals (first|assumption|wp_step))
open PySem.W in
theorem Ale {tk:Tok} {fill expr:Bool} {Q:Value->Shared->Prop} (KX:K.In h) (F1:W8 K C) (hx:h.get? a=some o) (hc:o.cls=.ref C) (hq:Q (.ref C) ⟨h,g,d,t,os⟩) :
  wpAny (model prog w) A (getAttrBy (.ref a) (.str "__class__" tk) fill expr) Q E ⟨h,g,d,t,os⟩:=by
 have f3:=F.attr_ValueError.ga.bind (.ref a);have hx0:(expr&&onTheHeap (Value.builtin "BaseException.__getattribute__"))=false:=by cases expr <;> rfl
 have hx2:(Value.builtin "BaseException.__getattribute__"==Value.builtin "object.__getattribute__")=false:=by decide +kernel
 have hx1:(onTheHeap (Value.ref C)&&Value.builtin "BaseException.__getattribute__"==Value.builtin "object.__getattribute__")=false:=by rw[hx2];rfl
 have L1:Looks (model prog w) h (typeLookup (.ref C) "__getattribute__") (some (.builtin "BaseException.__getattribute__")):=looks_findIn KX F1.ga;have L2:Looks (model prog w) h (typeLookup (.ref C) "__getattr__") none:=looks_findIn KX F1.gn
 repeat (any_goals (first|assumption|(with_reducible refine wpAny_loadPart_at hx ?_;rw[hc])|with_reducible refine L1.at ?_|with_reducible refine L2.at ?_|wp_step))
 refine codeAny_call_builtin F.attr_ValueError.ga.plain F.entry_bexc_ga (Ub KX F1 hx hc (Acj KX F1 hx hc ?_))
 repeat (any_goals (first|assumption|wp_step))
open PySem.W in
theorem Aeh {Q:Option Value->Shared->Prop} (KX:K.In h) (F1:W8 K C) (hx:h.get? a=some o) (hc:o.cls=.ref C) (hq:Q (some (.ref C)) ⟨h,g,d,t+1,os⟩) :
  wpAny (model prog w) A (getAttr? (.ref a) "__class__") Q E ⟨h,g,d,t,os⟩:=by
 unfold getAttr? getAttrBy?
 repeat (any_goals (first|assumption|with_reducible apply Ale KX F1 hx hc|wp_step))
open PySem.W in
theorem Aoh (F1:W8 K C):KitX K (.ref a) (.ref C) (fun h=>∃o vs,h.get? a=some o/\o.cls=.ref C/\o.data=.fields vs) where
 ty:=fun _ _ _ ⟨o,_,h1,h2,_⟩=>h2 ▸ (Looks.ld h1).andThen .now
 it:=fun _ _ X _=>by
  obtain⟨cdD,hcD⟩:=isSome_iff_exists.mp F1.cls;unfold clsIn at hcD;split at hcD
  .rename_i c' d' cd' sl' ho;intro A' Q' E' s' k q;unfold isType loadHead;exact wpAny_bind (wpAny_loadPart (k _ _ (X _ _ ho)) (wpAny_pure q))
  .cases hcD
 ne:=fun h tp dd its n sl X htp=>by
  obtain⟨cdD,hcD⟩:=isSome_iff_exists.mp F1.cls;refine eq_false_iff.mpr fun q=>?_;have e:C=tp:=Value.ref.inj (beq_iff_eq.mp q);subst e;unfold clsIn at hcD;split at hcD
  .rename_i c' d' cd' sl' ho;have z:=(X _ _ ho).symm.trans htp;cases z
  .cases hcD
 ca:=fun {_ _ _ _ _ s} X ⟨o,_,h1,h2,_⟩ k=>by obtain⟨h,g,d,t,os⟩:=s;exact Aeh X F1 h1 h2 k
end
inductive TyX (K:PySem.W.Frag) (H:Hp):V->Value->Prop
 |of {x:V} {t:Value}:Vd K H x t->TyX K H x t
 |exc {a C:Addr} {o:Option (Nat×Option Addr)}:H a=some (Su a (.ref C) o)->W8 K C->TyX K H (.ref a) (.ref C)
section
variable {X:Cx} {aa:List (Addr×Obj)} {σ:St} {H:Hp} {s:Shared}
theorem Atn {o:Option (Nat×Option Addr)} (I:Inv X aa σ H s) (e:H a=some (Su a (.ref C) o)):∃o vs,s.heap.get? a=some o/\o.cls=.ref C/\o.data=.fields vs:=by
 obtain⟨p,_,_⟩:=(show Dn X.prog X.w H s.heap a (Su a (.ref C) o) from I.hok a _ e);exact p.1
def Alf:V->Option Value
 |.ty n=>some (.type n)
 |.ref a=>some (.ref a)
 |_=>none
theorem Aoi (h:Alf c=some cv) (r:RelV c u):u=cv:=by
 cases c <;> simp[Alf] at h <;> subst h <;> exact r
theorem Aoj:Hh X (.builtin "isinstance") (fun xs H Q=>∃x c cv t b,xs=[x,c]/\TyX X.K H x t/\Alf c=some cv/\kitOne X.K t cv=some b/\Q (.bl b) H):=by
 intro aa s σ H xs us Q I r h;obtain⟨x,c,cv,t,b,rfl,ty,hc,hk,q⟩:=h;obtain⟨u,v,rfl,ru,rv⟩:=vals2 r;obtain rfl:=Aoi hc rv;have fin:∀tk,EP X aa σ Q (.bool b) { s with toks:=tk }:=fun tk=>⟨.bl b,H,I.tok tk,rfl,q⟩
 cases ty with
 |of ty=>exact Ak2 I ru ty hk fin
 |exc e k=>
  cases ru;exact kia_one (Aoh k) I.kIn (Atn I e) hk (fun z=>nomatch z) fin
end
def Its (x:Str):It:=⟨fun i _=>i < x.cps.size,fun i H v H'=>H'=H/\∃c,x.cps[i]?=some c/\v=.str ⟨#[c]⟩,fun i _=>i=x.cps.size⟩
theorem Aei {P:Program} {w:World} {K:PySem.W.Frag} {tg:Expr} (it:Addr) (ty:String) (x:Str) (t:Tok) (hty:["enumerate","zip","dict_itemiterator","dict_reverseitemiterator","odict_iterator","itertools.zip_longest","itertools.pairwise"].contains ty=false)
  (W:∀A:Around,A.handled=none->Walks P w A it [it] [it] x.cps.size (SignAt x) (fun i h=>h.IsStrIter it ty x t i)) (hself:∀(A:Around) (i:Nat) (s:Shared) (Q:Value->Shared->Prop) (E:Value->Shared->Prop),s.heap.IsStrIter it ty x t i->Q (.ref it) s->wpAny (model P w) A (pyIter (.ref it)) Q E s) :
  Turn P w K tg (Its x) [it] it (fun i h=>h.IsStrIter it ty x t i) where
 mem:=by simp
 obj:=fun i h st b hb=>by
  have e:b=it:=by simpa using hb
  subst e;obtain⟨o,e,c,d⟩:=st;exact⟨o,e,fun v z=>by rw[d] at z;cases z⟩
 keep:=fun i h h' st k=>let ⟨o,e,r⟩:=st;⟨o,k it (by simp) o e,r⟩
 item:=by
  intro X hP hw hK hc i aa s σ H E I hf st hg;subst hP hw hK;obtain⟨f0,f1,f2,f3,f4,f5⟩:=hf it (by simp)
  refine(W X.A (I.ok.hd hc)).item i s _ _ hg st fun v h' tk hv st' kk=>?_;obtain⟨c,u,hcp,rfl⟩:=hv;have I1:Inv X aa σ H { s with heap:=h',toks:=tk }:=I.turned (fun b o hb e=>kk b o (by simpa using hb) e) f0 f1 f3 f4 f5
  obtain⟨o,e,oc,d⟩:=id st';exact⟨_,rfl,Aiw (s:={ s with heap:=h',toks:=tk }) e oc d hty ⟨.str ⟨#[c]⟩,H,I1,⟨u,rfl⟩,⟨rfl,c,hcp,rfl⟩,st',fun b hb=>(hf b hb).1⟩⟩
 done:=by
  intro X hP hw hK hc i aa s σ H E I hf st hg;subst hP hw hK;have hg:i=x.cps.size:=hg;subst hg;obtain⟨f0,f1,f2,f3,f4,f5⟩:=hf it (by simp)
  refine(W X.A (I.ok.hd hc)).done s _ _ st fun h' tk kk=>⟨rfl,I.turned (fun b o hb e=>kk b o (by simpa using hb) e) f0 f1 f3 f4 f5⟩
 self:=hself
def Bdr (ts:TE):TI:=fun σ H R=>ts σ H fun v H1=>∃x,v=.str x/\R (Its x) H1
theorem Azn {X:Cx} {tg e:Expr} {ts:TE} (he:PE X e ts):PI X tg e (Bdr ts):=by
 intro aa s σ H R I h;refine thn (he aa s σ H _ I h) fun v s1 ⟨z,H1,I1,r1,q1⟩=>?_;obtain⟨x,rfl,q⟩:=q1;obtain⟨t,rfl⟩:=r1;have I2:∀o,Inv X aa σ H1 { s1 with heap:=s1.heap.push o }:=fun o=>I1.kept (t':=s1.toks) fun b u e=>get?_push_of_some _ e
 have fp:∀b∈[s1.heap.objs.size],Xx X aa H1 b:=fun b hb=>by
  have e:b=s1.heap.objs.size:=by simpa using hb
  subst e;exact I1.fpOk (le_refl _) (I1.hok.fresh (le_refl _))
 cases ha:x.cps.all (· < 128)
 .refine wpAny_pyIter_wide ha ⟨s1.heap.objs.size,[s1.heap.objs.size],_,_,H1,rfl,I2 _,Aei _ "str_iterator" x t (by decide) (fun A hA=>Walks.strWide hA _ x t) (fun _ _ _ _ _ st h=>wpAny_pyIter_striter_wide st h),⟨_,get?_push_size _ rfl,rfl,rfl⟩,fp,q⟩
 .refine wpAny_pyIter_ascii ha ⟨s1.heap.objs.size,[s1.heap.objs.size],_,_,H1,rfl,I2 _,Aei _ "str_ascii_iterator" x t (by decide) (fun A hA=>Walks.strAscii hA _ x t) (fun _ _ _ _ _ st h=>wpAny_pyIter_striter_ascii st h),⟨_,get?_push_size _ rfl,rfl,rfl⟩,fp,q⟩
section
variable {X:Cx}
theorem Aok:MtR X "str.index" (fun x vs H Q=>∃z y i rest,x=.str z/\vs=[.str y]/\Builtin.Str.occurrences z y 0 z.length 1=i::rest/\Q (.int (i:Nat)) H):=by
 intro aa s σ H x vs v us Q I rx rv h;obtain⟨z,y,i,rest,rfl,rfl,ho,q⟩:=h;obtain⟨t,rfl⟩:=rx;obtain⟨u,rfl,t',rfl⟩:=rv.one;exact SC.index ho ⟨.int i,H,I.tok _,⟨_,rfl⟩,q⟩
theorem Aha:OpR X (binaryOp .Mult) (fun x y H Q=>∃z n,x=.str z/\y=.int n/\z.length<=16/\0<=n/\n<=1048576/\Q (.str (Txt.mul z n)) H):=by
 intro aa s σ H x y v u Q I rx ry h;obtain⟨z,n,rfl,rfl,h1,h2,h3,q⟩:=h;obtain⟨t,rfl⟩:=rx;obtain⟨t',rfl⟩:=ry;exact SB.mul (mulOk_of 16 1048576 h1 (by omega) (by omega) (by decide) (by decide)) fun t' k=>⟨.str _,H,I.tok _,⟨_,rfl⟩,q⟩
theorem Ai6:∀{ys:List Str} {us:List Value},Vals (ys.map V.str) us->StrsAre us ys
 |[],_,h=>by cases h;exact .nil
 |y::r,_,h=>by
  cases h with
  |cons h1 h2=>
   obtain⟨t,rfl⟩:=h1;exact .cons y t (Ai6 h2)
theorem Ato:MtR X "str.join" (fun x vs H Q=>∃z p ys,x=.str z/\vs=[.ref p]/\H p=some (.lst (ys.map V.str))/\(ys.map (·.length)).sum+ys.length * z.length<=16777216/\Q (.str (Txt.join z ys)) H):=by
 intro aa s σ H x vs v us Q I rx rv h;obtain⟨z,p,ys,rfl,rfl,hp,hz,q⟩:=h;obtain⟨t,rfl⟩:=rx;obtain⟨u,rfl,ru⟩:=rv.one;cases ru;obtain⟨_,its,n,r,e⟩:=(show Dn X.prog X.w H s.heap p (.lst (ys.map V.str)) from I.hok p _ hp);exact join_list (D:=p) (items:=its.toArray) ⟨_,e,rfl,_,rfl⟩ (by simpa using Ai6 r) hz fun t' k=>⟨.str _,H,I.tok _,⟨_,rfl⟩,q⟩
theorem range_all (bs:List Bool):(List.range bs.length).all (fun i=>bs.getD i false)=bs.all id:=by
 rw[Bool.eq_iff_iff,all_eq_true,all_eq_true];constructor
 .intro h x hx;obtain⟨i,hi,rfl⟩:=List.getElem_of_mem hx;have:=h i (mem_range.mpr hi);rw[getD_eq_getElem?_getD,getElem?_eq_getElem hi] at this;exact this
 .intro h i hi;have hi:=mem_range.mp hi;rw[getD_eq_getElem?_getD,getElem?_eq_getElem hi];exact h _ (getElem_mem hi)
theorem Aol (hc:X.calm=true):Hh X (.builtin "all") (fun xs H Q=>∃p,∃bs:List Bool,xs=[.ref p]/\H p=some (.lst (bs.map V.bl))/\Q (.bl (bs.all id)) H):=by
 intro aa s σ H xs us Q I r h;obtain⟨p,bs,rfl,hp,q⟩:=h;obtain⟨u,rfl,ru⟩:=vals1 r;cases ru;obtain⟨_,its,n,rv,e⟩:=(show Dn X.prog X.w H s.heap p (.lst (bs.map V.bl)) from I.hok p _ hp);have hl:s.heap.IsList p its.toArray:=⟨_,e,rfl,_,rfl⟩;have hlen:its.length=bs.length:=by rw[<-rv.length,length_map]
 refine call_all_walk (wpAny_pyIter_list hl ?_);have hne:p≠s.heap.objs.size:=ne_of_lt (lt_size e);have hnew:∀o b u,s.heap.get? b=some u->(s.heap.push o).get? b=some u:=fun o b u z=>get?_push_of_some _ z;refine⟨s.heap.objs.size,[s.heap.objs.size,p],[s.heap.objs.size],its.toArray.size,_,_,fun i=>bs.getD i false,rfl,Walks.list (A:=X.A.in1) (show X.A.in1.handled=none from I.ok.hd hc) _ p hne its.toArray,⟨⟨_,get?_push_size _ rfl,rfl,rfl⟩,?_⟩,fun i v s' Q' E' hv hq=>?_,fun h' tk k=>?_⟩
 .exact⟨_,hnew _ _ _ e,rfl,_,rfl⟩
 .have hv:its[i]?=some v:=by simpa using hv
  cases eb:bs[i]? with
  |none=>
   have:=List.getElem?_eq_none_iff.mp eb;have:=(List.getElem?_eq_some_iff.mp hv).1;omega
  |some b=>
   obtain⟨u,hu,ru⟩:=rv.get (i:=i) (x:=.bl b) (by rw[getElem?_map,eb];rfl)
   rw[hv] at hu;cases hu;cases ru;have z:bs.getD i false=b:=by rw[getD_eq_getElem?_getD,eb];rfl
   have hq:Q' (bs.getD i false) s':=hq;rw[z] at hq;exact wpAny_truthy_bool hq
 .refine⟨.bl _,H,I.kept (t':=tk) fun b u z=>k b u (fun m=>?_) (hnew _ _ _ z),rfl,?_⟩
  .have:b=s.heap.objs.size:=by simpa using m
   subst this;exact absurd (lt_size z) (lt_irrefl _)
  .have z:(List.range its.toArray.size).all (fun i=>bs.getD i false)=bs.all id:=by
    rw[size_toArray,hlen];exact range_all bs
   rw[z];exact q
end
structure Og (K:PySem.W.Frag) (mg:Str->Option Value) (x:Str) (st:Stmt) (ps:List Str) (f:Addr) (fd:FuncData):Prop where
 fn:Fun K x x st f fd
 gl:mg x=some (.ref f)
 bd:Binds K fd ps []
section
theorem Fun.okX {P:Program} {w:World} {K:PySem.W.Frag} {mg:Str->Option Value} {base:Heap} {cm:Bool} {x aj:Str} {st:Stmt} {f:Addr} {fd:FuncData} {N ps:List Str} {k:Nat} {sp:Sp} (F:Fun K x aj st f fd) (S:Fj N ps (Ak st)) (len:∀vs H Q E,sp vs H Q E->vs.length=ps.length)
  (hbody:∀(cdv:Value) (A:Around) (outer:List Env) (s:Shared) (H:Hp) (vs:List V) (Q:VK) (E:XK),Hc k (A.deeper (envOfC aj (Ak st) s.heap.objs.size f cdv)) cm->sp vs H Q E->
   ∃t,PSs (Ss (CXo P w) P w K mg base N aj (Ak st) f cdv A outer s H E cm) (Aq st) t/\t { nx:=fun _ H'=>Q .non H',rt:=Q } (start N vs) H):Gw P w K mg base (CXo P w) (k+1) f fd ps sp cm:=by
 obtain⟨oc,od,dV,kV,doc,pm,an,cdv,ct,osl,rfl,lk,hcd⟩:=F.ex;exact Bde lk hcd S len fun A outer s H vs Q E hr hsp=>hbody cdv A outer s H vs Q E hr hsp
theorem Ai7:Du (CXo P w) X (fun _=>E0):=fun _ _ _ _ _ _ _ ⟨_,_,_,_,_,_,_,z⟩=>z.elim
end
theorem Azo {X:Cx} {CX:CXT} {k:Nat} {f:Addr} {fd:FuncData} {ps:List Str} {sp:Sp} {E:St->XK} {x:Str} {st:Stmt} {p pos:Pos} {e:Expr} {es:List Expr} {t:TA} {cm:Bool} (D:Og X.K X.mg x st ps f fd)
  (F:Gw X.prog X.w X.K X.mg X.base CX k f fd ps sp cm) (hr:Hc k X.A cm) (hx:Du CX X E) (ha:PA X (e::es) t) (hg:Gl X x:=by rfl)
  (hdb:(x==("__debug__":Str))=false:=by decide) (he:starEach (e::es) X.env=(false,eval e X.env)::starEach es X.env:=by rfl) (hpl:(backTo pos (starEach es X.env)).any (·.1)=false:=by rfl) :
  PE X (.Call (.Name x p) (e::es) [] pos) (Ag7 sp [] E t):=Aeg F hr hg D.gl D.fn.kp D.bd .nil hx ha hdb he hpl
theorem pbi {X:Cx} {x:Str} {id:String} {r:List V->Hp->VK->Prop} {p pos:Pos} {e:Expr} {es:List Expr} {t:TA} (hc:Hh X (.builtin id) r) (hm:X.mg x=none) (hv:bootBuiltins x=some (.builtin id)) (ha:PA X (e::es) t) (hg:Gl X x:=by rfl) (hn:x≠"__name__":=by decide) (hdb:(x==("__debug__":Str))=false:=by decide)
  (he:starEach (e::es) X.env=(false,eval e X.env)::starEach es X.env:=by rfl) (hpl:(backTo pos (starEach es X.env)).any (·.1)=false:=by rfl) :
  PE X (.Call (.Name x p) (e::es) [] pos) (tCB r t):=An1 hc hg hm hv ha hn hdb he hpl
theorem Atp (a b:Value):checkTypeCall "enumerate" ⟨[a],[("start",b)]⟩=pure ():=by kernel_rfl
theorem Azp (a b:Value):checkBuiltinCall "enumerate.__new__" ⟨[.type "enumerate",a],[("start",b)]⟩=pure ():=by kernel_rfl
theorem Atq (obj a b:Value):argsOk "object.__init__" ⟨[obj,a],[("start",b)]⟩:=by kernel_rfl
section
theorem Atr (ft:TypeCalled T newId initId)
  (c1:checkTypeCall T ⟨args,kw⟩=pure ()) (c2:checkBuiltinCall newId ⟨.type T::args,kw⟩=pure ())
  (e1:entryFor table newId=some Bn) (e2:entryFor table initId=some Bi) (g:Meets (Bn ⟨.type T::args,kw⟩) S) (h:S A.in1 (wants Q₁ E) s)
  (nx:∀obj s₁,Q₁ obj s₁->s₁.TypeIs obj T/\argsOk initId ⟨obj::args,kw⟩/\∃Si,Meets (Bi ⟨obj::args,kw⟩) Si/\Si A.in1 (wants (fun r s₂=>r=.none/\Q obj s₂) E) s₁) :
  wpAny (model prog w) A (call (.type T) args kw) Q E s:=by
 obtain⟨c,tl,m1⟩:=ft.mro;have m2:=ft.made;have m3:=ft.sub;have m4:=ft.notType;have m5:=ft.canCreate;refine wpAny_call (codeAny_of_tree (show wpAny _ _ (callAny (.type T) _) _ _ _ from wpAny_pure ⟨Code.quiet_builtin _ (by decide +kernel),codeAny_builtin F.entry_type_call ?_⟩))
 rw[Around.under_plain (weight_type_call_type T args kw) (units_type_call_type T args kw)]
 repeat (any_goals (first|assumption|wp_step))
 refine codeAny_mono (codeAny_call_builtin ft.plain e1 (wpAny_of_eq c2 (g prog w A.in1 _ s h))) fun r s₁ hr=>?_
 match r,hr with
 |.error e,hr=>exact hr
 |.ok .next,hr=>exact hr.elim
 |.ok .brk,hr=>exact hr.elim
 |.ok .cont,hr=>exact hr.elim
 |.ok (.ret obj),hr=>
  obtain⟨n1,n2,Si,n3,n4⟩:=nx _ _ hr;have n5:=ft.init.lookup;have n6:=ft.init.bind obj
  repeat (any_goals (first|assumption|wp_step))
  refine codeAny_mono (codeAny_call_builtin ft.init.plain e2 (ft.init.check _ _ _ _ _ _ _ _ n1 n2 (n3 prog w A.in1 _ s₁ n4))) fun r₂ s₂ hq=>?_
  match r₂,hq with
  |.error e,hq=>exact hq
  |.ok .next,hq=>exact hq.elim
  |.ok .brk,hq=>exact hq.elim
  |.ok .cont,hq=>exact hq.elim
  |.ok (.ret r),hq=>
   obtain⟨rfl,q⟩:=hq
   repeat (any_goals (first|assumption|wp_step))
theorem Azq (hl:typeLookup (.type T) "__init__"=pure (some (.builtin "object.__init__"))) (hm:Bind.madeBy (.type T)=pure (some newId)) (hne:(some newId != some "object.__new__")=true) :
  Meets (Builtin.«object.__init__» ⟨[self,a],[("start",b)]⟩) (fun _ R s=>s.TypeIs self T/\R (.ok (.ret .none)) s):=by
 refine Meets.of_wp fun prog w A R s ⟨hT,hq⟩=>?_
 repeat (any_goals (first|assumption|wp_step))
 exact⟨_,rfl,hq⟩
end
set_option maxHeartbeats 2000000 in
theorem Aom (x:Str) (t u:Tok) :
  Meets (Builtin.«enumerate.__new__» ⟨[.type "enumerate",.str x t],[("start",.int 1 u)]⟩) (fun _ R s=>
   R (.ok (.ret (.ref (s.heap.push { cls:=.type (strIterType x),data:=.fields #[.str x t,.int 0 0] }).objs.size))) { s with heap:=(s.heap.push { cls:=.type (strIterType x),data:=.fields #[.str x t,.int 0 0] }).push { cls:=.type "enumerate",data:=.fields #[.none,.bool false,.ref s.heap.objs.size,rawInt 1,.none,.none] } }):=
 .of_wp fun prog w A R s h=>by
  obtain⟨hp,g,d,tk,os⟩:=s;have e0:=sub_enumerate
  wp_walk
  refine wpAny_stack_any fun st=>wpAny_pure ?_;split
  .rename_i c _ _ _ _ _;cases (c==Value.type "enumerate") <;> (wp_walk using wpAny_pyIter_strU;exact⟨_,rfl,h⟩)
  .wp_walk using wpAny_pyIter_strU
   exact⟨_,rfl,h⟩
section
theorem Ats {t u:Tok}
  (h:∀h':Heap,IsEnum h' (s.heap.objs.size+1) s.heap.objs.size 1 .none->h'.IsStrIter s.heap.objs.size (strIterType x) x t 0->(∀b o,s.heap.get? b=some o->h'.get? b=some o)->Q (.ref (s.heap.objs.size+1)) { s with heap:=h' }) :
  wpAny (model prog w) A (call (.type "enumerate") [.str x t] [("start",.int 1 u)]) Q E s:=by
 refine Atr (Q₁:=fun obj s1=>s1.TypeIs obj "enumerate"/\Q obj s1) F.called_enumerate (Atp _ _) (Azp _ _) F.entry_enumerate_new F.entry_object_init (Aom x t u) ?_
  fun obj s1 hq=>⟨hq.1,Atq _ _ _,_,Azq F.called_enumerate.init.lookup F.called_enumerate.made (by decide),hq.1,rfl,hq.2⟩
 have hz:(s.heap.push { cls:=.type (strIterType x),data:=.fields #[.str x t,.int 0 0] }).objs.size=s.heap.objs.size+1:=size_push ..
 have he:=get?_push_size (s.heap.push { cls:=.type (strIterType x),data:=.fields #[.str x t,.int 0 0] }) (o:={ cls:=.type "enumerate",data:=.fields #[.none,.bool false,.ref s.heap.objs.size,rawInt 1,.none,.none] }) rfl;rw[hz] at he;show _/\_;rw[hz];exact⟨⟨_,he,rfl⟩,h _ he ⟨_,get?_push_of_some _ (get?_push_size _ rfl),rfl,rfl⟩ fun b o q=>get?_push_of_some _ (get?_push_of_some _ q)⟩
theorem Atu {M:Model} {pos:Pos} {T:String} {x:Sem Value} {rest:List (Bool×Sem Value)} {kws:List (Option Str×Sem Value)} {Q:Value->Shared->Prop} (hall:kws.all (·.1.isSome)=true)
  (hno:(((false,x)::rest).any (·.1)||kws.any (·.1.isNone))=false)
  (h:wpAny M A (spliced ((false,x)::rest)) (fun vs s1=>wpAny M A (evalAll (kws.map (·.2))) (fun zs s2=>wpAny M A (call (.type T) vs ((kws.filterMap (·.1)).zip zs)) Q E s2) E s1) E s) :
  wpAny M A (callWith pos (.type T) [] ((false,x)::rest) kws) Q E s:=by
 unfold callWith;refine wpAny_bind (wpAny_holding (wpAny_mono (evalArgs_kw (Q:=fun a s2=>wpAny M A (call (.type T) a.pos a.kw) Q E s2) hall h) (fun a s1 q=>wpAny_bind (wpAny_standAt ?_)) fun _ _ q=>q));simp only[hno];refine wpAny_bind (wpAny_pure ?_);exact wpAny_bind (wpAny_mono q (fun r s2 hr=>wpAny_bind (wpAny_holding (wpAny_point (wpAny_pure hr)))) fun _ _ q=>q)
end
theorem Aon {n:Nat} {P:Nat->Value->Prop} {St:Nat->Heap->Prop} (D:Draws prog w A it fp n P St) :
  Draws prog w A it fp (n+1) (fun i v=>P (i - 1) v) (fun i h=>1<=i/\St (i - 1) h) where
 live:=fun i h st=>D.live _ _ st.2
 frame:=fun i h h' st k=>⟨st.1,D.frame _ _ _ st.2 k⟩
 item:=fun i s Q E hi st hQ=>by
  obtain⟨h1,st⟩:=st;refine D.item (i - 1) s Q E (by omega) st fun x h' tk hP hs sb=>hQ x h' tk hP ⟨by omega,?_⟩ sb
  rw[show i+1 - 1=i - 1+1 by omega]
  exact hs
 done:=fun s Q E st hE=>D.done s Q E (by simpa using st.2) hE
def Ite (x:Str):It:=⟨fun i _=>i < x.cps.size,fun i H v H'=>∃c T,x.cps[i]?=some c/\H T=none/\v=.ref T/\H'=upd H T (.tup [.int ((i:Int)+1),.str ⟨#[c]⟩]),fun i _=>i=x.cps.size⟩
theorem Aa1 {P:Program} {w:World} {K:PySem.W.Frag} {elts:List Expr} {kt:Nat} {tpos:Pos} (e it:Addr) (ty:String) (x:Str) (t:Tok) (hei:e≠it)
  (D:∀A:Around,A.handled=none->Draws P w A it [it] x.cps.size (fun i v=>∃c u,x.cps[i]?=some c/\v=.str ⟨#[c]⟩ u) (fun i h=>h.IsStrIter it ty x t i)) :
  Turn P w K (.Tuple elts kt tpos) (Ite x) [e,it] e (fun i h=>(∃old,IsEnum h e it ((i+1:Nat):Int) old)/\h.IsStrIter it ty x t i) where
 mem:=by simp
 obj:=fun i h st b hb=>by
  obtain⟨⟨old,he⟩,o,ho,hc,hd⟩:=st;rcases mem_cons.mp hb with rfl|hb
  .exact⟨_,he,fun v z=>by
    have z':Data.fields _=Data.cell v:=z;cases z'⟩
  .obtain rfl:b=it:=by simpa using hb
   exact⟨o,ho,fun v z=>by rw[hd] at z;cases z⟩
 keep:=fun i h h' st k=>by
  obtain⟨⟨old,he⟩,o,ho,r⟩:=st;exact⟨⟨old,k e (by simp) _ he⟩,o,k it (by simp) o ho,r⟩
 item:=by
  intro X hP hw hK hc i aa s σ H E I hf st hg;subst hP hw hK;have W:=WalksT.enumerateD (A:=X.A) (Aon (D X.A.in1 (show X.A.in1.handled=none from I.ok.hd hc))) e hei (by simpa using hei) (by simp)
  obtain⟨⟨old,he⟩,hs⟩:=st;have hfe:=hf e (by simp)
  have hfi:=hf it (by simp)
  refine W.item (i+1) s _ _ (Nat.succ_lt_succ hg) ⟨⟨old,he⟩,succ_le_succ (zero_le _),by simpa using hs⟩ fun T vals h' tk hv hT hIs hM hk=>?_
  obtain⟨tk',xv,⟨c,u,hcp,rfl⟩,rfl⟩:=hv;have hTw:=W.apart _ _ _ hM;refine⟨_,rfl,W.go elts kt tpos (i+1) T { s with heap:=h',toks:=tk } _ _ hM fun h2 st2 hk2=>?_⟩
  have hcp:x.cps[i]?=some c:=by simpa using hcp
  have hk3:∀b o,b∉[e,it]->s.heap.get? b=some o->h2.get? b=some o:=fun b o hb q=>hk2 b o hb (hk b o hb q);have hTn:H T=none:=I.hok.fresh hT;have hT2:IsTup h2 T #[.int ((i+1:Nat):Int) tk',.str ⟨#[c]⟩ u]:=by
   obtain⟨o,ho,r⟩:=hIs;exact⟨o,hk2 T o hTw ho,r⟩
  have nH:∀b u,H b=some u->b∉[e,it]:=fun b u q hb=>by
   rcases mem_cons.mp hb with rfl|hb
   .rw[hfe.1] at q;cases q
   .obtain rfl:b=it:=by simpa using hb
    rw[hfi.1] at q;cases q
  have ltT:∀{b:Addr} {o:Obj},s.heap.get? b=some o->b≠T:=fun q=>ne_of_lt (lt_of_lt_of_le (lt_size q) hT);refine⟨.ref T,upd H T (.tup [.int ((i:Int)+1),.str ⟨#[c]⟩]),?_,rfl,⟨c,T,hcp,hTn,rfl,rfl⟩,⟨st2.1,by simpa using st2.2.2⟩,fun b hb=>?_⟩
  .show Inv X aa σ (upd H T (.tup [.int ((i:Int)+1),.str ⟨#[c]⟩])) { s with heap:=h2,gens:=s.gens,drawn:=s.drawn,toks:=tk }
   refine I.step (s:=s) (g':=s.gens) (d':=s.drawn) (ch:=[e,it]) (fun b hb=>?_) (fun b o _ _ hc q _=>hk3 b o hc q) (fun b o _ _ hc q _=>⟨o.slots,hk3 b o hc q⟩) (fun b o _ q n=>by rw[Ax (ltT q)];exact n)
    (fun b o hc q=>⟨o,hk3 b o hc q⟩) (fun b xs q=>by rw[Ax (Bv q hTn)];exact q) (fun b o u q=>by rw[Ax (Bv q hTn)];exact q) (fun b ps q=>⟨#[],by rw[Ax (Bv q hTn),q];simp⟩) (fun m hm=>?_) (fun b u q=>?_) I.bare
   .rcases mem_cons.mp hb with rfl|hb
    .exact⟨hfe.2.2.2.1,hfe.2.1,hfe.2.2.2.2.1,hfe.2.2.2.2.2⟩
    .obtain rfl:b=it:=by simpa using hb
     exact⟨hfi.2.2.2.1,hfi.2.1,hfi.2.2.2.2.1,hfi.2.2.2.2.2⟩
   .obtain⟨o,es,ep,ho,r⟩:=hm;refine⟨o,es,ep,hk3 _ o (fun hb=>?_) ho,r⟩;rcases mem_cons.mp hb with q|hb
    .exact hfe.2.1 q.symm
    .exact hfi.2.1 (show X.env.locals=it by simpa using hb).symm
   .by_cases hb:b=T
    .subst hb;rw[Bm] at q;cases q;exact⟨(show 2<=sizeLine by decide),_,.cons ⟨tk',rfl⟩ (.cons ⟨u,rfl⟩ .nil),hT2⟩
    .rw[Ax hb] at q;refine(I.hok b u q).stay (fun d v hd z=>hk3 d v ?_ z) (fun d z=>by rw[Ax (Bv z hTn)];exact z) fun d xs z=>by rw[Ax (Bv z hTn)];exact z
     rcases hd with rfl|hd
     .exact nH d u q
     .exact nH d _ hd
  .have hbT:b≠T:=fun q=>hTw (q ▸ hb);rw[Ax hbT];exact(hf b hb).1
 done:=by
  intro X hP hw hK hc i aa s σ H E I hf st hg;subst hP hw hK;have hg:i=x.cps.size:=hg;subst hg;have W:=WalksT.enumerateD (A:=X.A) (Aon (D X.A.in1 (show X.A.in1.handled=none from I.ok.hd hc))) e hei (by simpa using hei) (by simp)
  obtain⟨⟨old,he⟩,hs⟩:=st;have hfe:=hf e (by simp)
  have hfi:=hf it (by simp)
  refine W.done s _ _ ⟨⟨old,he⟩,succ_le_succ (zero_le _),by simpa using hs⟩ fun h' tk hk=>⟨rfl,?_⟩
  have nH:∀b u,H b=some u->b∉[e,it]:=fun b u q hb=>by
   rcases mem_cons.mp hb with rfl|hb
   .rw[hfe.1] at q;cases q
   .obtain rfl:b=it:=by simpa using hb
    rw[hfi.1] at q;cases q
  refine I.step (g':=s.gens) (d':=s.drawn) (ch:=[e,it]) (fun b hb=>?_) (fun b o _ _ hc q _=>hk b o hc q) (fun b o _ _ hc q _=>⟨o.slots,hk b o hc q⟩) (fun b o _ q n=>n)
   (fun b o hc q=>⟨o,hk b o hc q⟩) (fun b xs q=>q) (fun b o u q=>q) (fun b ps q=>⟨#[],by rw[q];simp⟩) (fun m hm=>?_) (fun b u q=>?_) I.bare
  .rcases mem_cons.mp hb with rfl|hb
   .exact⟨hfe.2.2.2.1,hfe.2.1,hfe.2.2.2.2.1,hfe.2.2.2.2.2⟩
   .obtain rfl:b=it:=by simpa using hb
    exact⟨hfi.2.2.2.1,hfi.2.1,hfi.2.2.2.2.1,hfi.2.2.2.2.2⟩
  .obtain⟨o,es,ep,ho,r⟩:=hm;refine⟨o,es,ep,hk _ o (fun hb=>?_) ho,r⟩;rcases mem_cons.mp hb with q|hb
   .exact hfe.2.1 q.symm
   .exact hfi.2.1 (show X.env.locals=it by simpa using hb).symm
  .refine(I.hok b u q).stay (fun d v hd z=>hk d v ?_ z) (fun _ z=>z) fun _ _ z=>z;rcases hd with rfl|hd
   .exact nH d u q
   .exact nH d _ hd
 self:=fun _ _ _ _ _ st h=>by
  obtain⟨⟨old,he⟩,_⟩:=st;exact wpAny_pyIter_enum he h
def Axv (ts:TE):TI:=fun σ H R=>ts σ H fun v H1=>∃x,v=.str x/\R (Ite x) H1
theorem Atv {X:Cx} {elts:List Expr} {kt j:Nat} {tpos p pos cpos kpos:Pos} {e:Expr} {ts:TE} (hg:Gl X "enumerate") (hm:X.mg "enumerate"=none) (he:PE X e ts) (hs:starEach [e] X.env=[(false,eval e X.env)]:=by rfl) :
  PI X (.Tuple elts kt tpos) (.Call (.Name "enumerate" p) [e] [⟨some "start",.Constant (.int 1) j cpos,kpos⟩] pos) (Axv ts):=by
 intro aa s σ H R I h;have ha:PA X [e] (Aeb ts An0):=Xg he Agy hs;have hk:PK X [⟨some "start",.Constant (.int 1) j cpos,kpos⟩] (Aeb (tC (.int 1)) An0):=As5 Ann Aza;refine wpAny_Call_Name_kw (Va I hg hm boot_enumerate ?_);have ha1:=ha pos aa s σ H (fun vs H1=>match vs with|[v]=>(∃x,v=.str x/\R (Ite x) H1)|_=>False) I h
 rw[hs] at ha1 ⊢
 refine Atu rfl rfl (thn ha1 fun us s1 ⟨vs,H1,I1,r,q⟩=>thn (hk pos aa s1 σ H1 (fun zs H2=>zs=[.int 1]/\H2=H1) I1 ⟨rfl,rfl⟩) fun ws s2 ⟨zs,H2,I2,rz,e1,e2⟩=>?_);subst e1 e2;obtain⟨z,rfl,u,rfl⟩:=vals1 rz
 match vs,q,r with
 |[v],⟨x,hx,q⟩,r=>
  subst hx;obtain⟨y,rfl,t,rfl⟩:=vals1 r;refine Ats fun h' e1 i1 k1=>wpAny_pyIter_enum e1 ?_;have I3:Inv X aa σ H2 { s2 with heap:=h' }:=I2.kept (t':=s2.toks) k1
  have fp:∀b∈[s2.heap.objs.size+1,s2.heap.objs.size],Xx X aa H2 b:=fun b hb=>by
   have hb':s2.heap.objs.size<=b:=by
    rcases mem_cons.mp hb with rfl|hb
    .exact le_succ _
    .obtain rfl:b=_:=by simpa using hb
     exact le_refl _
   exact I2.fpOk hb' (I2.hok.fresh hb')
  cases ha:x.cps.all (· < 128)
  .rw[show strIterType x="str_iterator" from by unfold strIterType;rw[ha];rfl] at i1
   exact⟨_,[s2.heap.objs.size+1,s2.heap.objs.size],_,_,H2,rfl,I3,Aa1 _ _ "str_iterator" x t (Nat.succ_ne_self _) (fun A hA=>Draws.strWide hA _ x t),⟨⟨_,e1⟩,i1⟩,fp,q⟩
  .rw[show strIterType x="str_ascii_iterator" from by unfold strIterType;rw[ha];rfl] at i1
   exact⟨_,[s2.heap.objs.size+1,s2.heap.objs.size],_,_,H2,rfl,I3,Aa1 _ _ "str_ascii_iterator" x t (Nat.succ_ne_self _) (fun A hA=>Draws.strAscii hA _ x t),⟨⟨_,e1⟩,i1⟩,fp,q⟩
section
theorem Aoo (hc:X.calm=true):Hh X (.builtin "sum") (fun xs H Q=>∃p,∃ns:List Int,xs=[.ref p]/\H p=some (.lst (ns.map V.int))/\Q (.int ns.sum) H):=by
 intro aa s σ H xs us Q I r h;obtain⟨p,ns,rfl,hp,q⟩:=h;obtain⟨u,rfl,ru⟩:=vals1 r;cases ru;obtain⟨_,its,n,rv,e⟩:=(show Dn X.prog X.w H s.heap p (.lst (ns.map V.int)) from I.hok p _ hp);have hi:IntsAre its ns:=intsAre_of rv;obtain⟨zs,hx⟩:=hi.allInts.items;have hl:s.heap.IsList p (intItems zs):=hx ▸ (⟨_,e,rfl,_,rfl⟩:s.heap.IsList p its.toArray);refine sum_intListG (I.ok.hd hc) hl fun h' tk t' hk=>⟨.int ns.sum,H,I.kept (t':=tk) hk,⟨t',?_⟩,q⟩;have e1:ns=zs.toList.map (·.1):=by
  rw[<-nums_intItems,<-hx];exact(show numsOf its.toArray.toList=ns from hi.numsOf).symm
 rw[preSum_eq,List.take_of_length_le (by simp),e1]
theorem Alh:OpR X (compareOp .LtE) (fun x y H Q=>∃i j,x=.str i/\y=.str j/\Q (.bl (!decide (j.cps.toList < i.cps.toList))) H):=by
 intro aa s σ H x y v u Q I rx ry h;obtain⟨i,j,rfl,rfl,q⟩:=h;obtain⟨t,rfl⟩:=rx;obtain⟨t',rfl⟩:=ry;exact PySem.P.le_str (Sq I q rfl)
theorem Atw:MtR X "str.find" (fun x vs H Q=>∃z y,x=.str z/\vs=[.str y]/\Q (.int (Txt.find z y)) H):=by
 intro aa s σ H x vs v us Q I rx rv h;obtain⟨z,y,rfl,rfl,q⟩:=h;obtain⟨t,rfl⟩:=rx;obtain⟨u,rfl,t',rfl⟩:=rv.one;exact SC.find ⟨.int _,H,I.tok _,⟨_,rfl⟩,q⟩
theorem Aop:MtR X "str.rfind" (fun x vs H Q=>∃z y,x=.str z/\vs=[.str y]/\Q (.int (Txt.rfind z y)) H):=by
 intro aa s σ H x vs v us Q I rx rv h;obtain⟨z,y,rfl,rfl,q⟩:=h;obtain⟨t,rfl⟩:=rx;obtain⟨u,rfl,t',rfl⟩:=rv.one;exact SC.rfind ⟨.int _,H,I.tok _,⟨_,rfl⟩,q⟩
theorem Aoq:MtR X "str.strip" (fun x vs H Q=>∃z y,x=.str z/\vs=[.str y]/\z.length<=sizeLine/\Q (.str (Txt.stripChars z y)) H):=by
 intro aa s σ H x vs v us Q I rx rv h;obtain⟨z,y,rfl,rfl,hz,q⟩:=h;obtain⟨t,rfl⟩:=rx;obtain⟨u,rfl,t',rfl⟩:=rv.one;exact SC.stripChars (fun t' k=>⟨.str _,H,I.tok k,⟨t',rfl⟩,q⟩) hz
theorem Azr:SlR X (fun x lo hi H Q=>∃z,x=.str z/\z.length<=sizeLine/\Q (.str (Txt.slice z lo hi)) H):=by
 intro aa s σ H x v vl vu lo hi sl Q I rx hs pl pu h;obtain⟨z,rfl,hz,q⟩:=h;obtain⟨t,rfl⟩:=rx;refine⟨"str",_,PySem.F.slot_str_getitem.lookup,typeIs_str _ _ _,?_⟩;have fin:∀(l u:Option (Int×Tok)),vl=partValue l->vu=partValue u->lo=l.map (·.1)->hi=u.map (·.1)->wpAny (model X.prog X.w) X.A (getItem (.str z t) (.ref sl)) (EP X aa σ Q) X.xe s:=by
  rintro l u rfl rfl rfl rfl;exact wpAny_getItem_str_slice (l:=l) (u:=u) (st:=none) hs rfl (post_val_or_str ⟨le_trans (Txt.slice_le z (l.map (·.1)) (u.map (·.1))) hz,fun t' k=>⟨.str _,H,I.tok k,⟨t',rfl⟩,q⟩⟩)
 cases pl with
 |none=>cases pu with
  |none=>exact fin none none rfl rfl rfl rfl
  |int j tj=>exact fin none (some (j,tj)) rfl rfl rfl rfl
 |int i ti=>cases pu with
  |none=>exact fin (some (i,ti)) none rfl rfl rfl rfl
  |int j tj=>exact fin (some (i,ti)) (some (j,tj)) rfl rfl rfl rfl
end
def Ahb (sc:Scope) (x:Str):Bool:=match sc.names.lookup x with
 |some .local=>true
 |some .cell=>true
 |some .free=>true
 |_=>false
def Ahc (sc:Scope) (x:Str):Bool:=match sc.names.lookup x with
 |some .local=>true
 |some .cell=>true
 |_=>false
theorem Ye (h:Ahb sc x=true):Vis sc x:=by
 unfold Ahb at h;split at h
 .exact .inl ‹_›
 .exact .inr (.inl ‹_›)
 .exact .inr (.inr ‹_›)
 .cases h
theorem Aor (h:Ahc sc x=true):Loc sc x:=by
 unfold Ahc at h;split at h
 .exact .inl ‹_›
 .exact .inr ‹_›
 .cases h
section
theorem Ali (K':PySem.W.Frag) (hK:X.K=K'):Hh X (.builtin "isinstance") (fun xs H Q=>∃x c cv t b,xs=[x,c]/\TyX K' H x t/\Alf c=some cv/\kitOne K' t cv=some b/\Q (.bl b) H):=by
 subst hK;exact Aoj
end
structure WE (X:Cx) (e:Expr) (t:TE):Prop where
 un:PE X e t
structure WT (X:Cx) (e:Expr) (t:TT):Prop where
 un:PT X e t
structure WW (X:Cx) (e:Expr) (t:TT):Prop where
 un:PW X e t
structure WA (X:Cx) (es:List Expr) (t:TA):Prop where
 un:PA X es t
structure WS (X:Cx) (st:Stmt) (t:TS):Prop where
 un:PS X st t
structure WSs (X:Cx) (sts:List Stmt) (t:TS):Prop where
 un:PSs X sts t
structure WG (X:Cx) (e:Expr) (t:TG):Prop where
 un:PG X e t
structure WI (X:Cx) (tg e:Expr) (t:TI):Prop where
 un:PI X tg e t
structure WTs (X:Cx) (es:List Expr) (t:TT):Prop where
 un:PTs X es t
structure WO (X:Cx) (e:Option Expr) (t:TO):Prop where
 un:PO X e t
structure WPs (X:Cx) (pos:Pos) (ks:List (Option Expr)) (vs:List Expr) (trs:List (TE×TE)):Prop where
 un:PPs X pos ks vs trs
section
variable {X:Cx} {x:Str} {pos pos' p ak cpos:Pos} {a b c e o k v:Expr} {es rest:List Expr} {sts:List Stmt} {st:Stmt} {ta tb tc te to tl:TE} {t:TA} {tA tB':TT} {u u':TS}
theorem kv (i:Nat) (hN:X.N[i]?=some x:=by kernel_rfl) (hv:Ahb X.env.scope x=true:=by kernel_rfl) (hd:(x==("__debug__":Str))=false:=by kernel_rfl) (hcd:(x==("__classdict__":Str))=false:=by kernel_rfl) :
  WE X (.Name x pos) (Ayc i):=⟨Xw hN (Ye hv) hd hcd⟩
theorem Bf2 {i:Int} {j:Nat}:WE X (.Constant (.int i) j pos) (tC (.int i)):=⟨Ann⟩
theorem kbl {j:Nat}:WE X (.Constant (.bool i) j pos) (tC (.bl i)):=⟨Bco⟩
theorem Bf3 {j:Nat}:WE X (.Constant .none j pos) (tC .non):=⟨Ayd⟩
theorem Bf4 {j:Nat}:WE X (.Constant (.str i) j pos) (tC (.str i)):=⟨Aye⟩
theorem Axw {v:V} {u:Value} (hm:X.mg x=some u) (r:RelV v u) (hg:X.env.kindOf x=some .globalImplicit:=by kernel_rfl) (hd:(x==("__debug__":Str))=false:=by kernel_rfl):WE X (.Name x pos) (tC v):=⟨Asn hg hm r hd⟩
theorem Bds {v:V} {u:Value} (hm:X.mg x=none) (hv:bootBuiltins x=some u) (r:RelV v u) (hg:X.env.kindOf x=some .globalImplicit:=by kernel_rfl) (hn:decide (x=("__name__":Str))=false:=by kernel_rfl)
  (hd:(x==("__debug__":Str))=false:=by kernel_rfl):WE X (.Name x pos) (tC v):=⟨Aso hg hm hv r (of_decide_eq_false hn) hd⟩
theorem kop (ho:OpR X (binaryOp op) r) (ha:WE X a ta) (hb:WE X b tb):WE X (.BinOp a op b pos) (tOp r ta tb):=⟨Bc2 ho ha.un hb.un⟩
theorem kun (ho:UnR X (unaryOp op) r) (ha:WE X a ta):WE X (.UnaryOp op a pos) (tUn r ta):=⟨Bc3 ho ha.un⟩
theorem Bf5 (ho:OpR X (compareOp op) r) (ha:WE X a ta) (hb:WE X b tb) (hm:behindInMarks op b=false:=by kernel_rfl):WE X (.Compare a [op] [b] pos) (tOp r ta tb):=⟨As0 ho ha.un hb.un hm⟩
theorem Azs (ho:OpR X (compareOp op) r) (ho':OpR X (compareOp op') r') (ha:WE X a ta) (hb:WE X b tb) (hc:WE X c tc) (hm:lastMarks [op,op'] [b,c]=false:=by kernel_rfl):WE X (.Compare a [op,op'] [b,c] pos) (Xz r r' ta tb tc):=⟨Anu ho ho' ha.un hb.un hc.un hm⟩
theorem Bf6 (ha:WE X a ta) (hb:WE X (.BoolOp .And (b::rest) pos) tb):WE X (.BoolOp .And (a::b::rest) pos) (Axk ta tb):=⟨Ayk ha.un hb.un⟩
theorem kor (ha:WE X a ta) (hb:WE X (.BoolOp .Or (b::rest) pos) tb):WE X (.BoolOp .Or (a::b::rest) pos) (Bcs ta tb):=⟨Bct ha.un hb.un⟩
theorem Bdt (ha:WE X a ta):WE X (.BoolOp op [a] pos) ta:=⟨Ayj ha.un⟩
theorem knot (ha:WE X a ta):WE X (.UnaryOp .Not a pos) (Axl ta):=⟨Ayl ha.un⟩
theorem kix (hr:IxR X r) (ha:WE X a ta) (hb:WE X b tb) (hs:Tz b:=by exact fun _ _=>rfl):WE X (.Subscript a b pos) (tOp r ta tb):=⟨Bdg hr ha.un hb.un hs⟩
theorem Bf7 (h:WA X es t):WE X (.List es pos) (Bdd t):=⟨Ay8 h.un⟩
theorem Bf8 {j:Nat} (h:WA X es t):WE X (.Tuple es j pos) (Bdc t):=⟨Ay7 h.un⟩
theorem kbm {T:String} {name:Str} {id:String} {r:V->List V->Hp->VK->Prop} (pa:PlainAttrs T) (slot:Slot T name id) (hty:typeOf (.builtin id)=pure (.type "method_descriptor")) (hm:MtR X id r) (ho:WE X o to) (ha:WA X (e::es) t)
  (bf:attributeBase o name X.env (eval o X.env)=eval o X.env:=by kernel_rfl)
  (hfew:((backTo cpos (starEach (e::es) X.env)).all (fun x=>!x.1)&&(backToKw cpos (keywordEach [] X.env)).all (fun x=>x.1.isSome)&&decide ((e::es).length+([]:List Keyword).length+(if ([]:List Keyword).isEmpty then 0 else 1) < 30))=true:=by kernel_rfl)
  (aq:(ak.endLine==cpos.line)=true:=by kernel_rfl) (he:starEach (e::es) X.env=(false,eval e X.env)::starEach es X.env:=by kernel_rfl) (hpl:(backTo cpos (starEach es X.env)).any (·.1)=false:=by kernel_rfl):WE X (.Call (.Attribute o name ak) (e::es) [] cpos) (tBM X.K T r to t):=by
 exact⟨Bdl pa slot hty hm ho.un ha.un bf hfew aq he hpl⟩
theorem Atx:WO X none Aiz:=⟨As6⟩
theorem Aty (h:WE X e te):WO X (some e) (Axq te):=⟨As7 h.un⟩
theorem Azt {r:V->Option Int->Option Int->Hp->VK->Prop} {lo hi:Option Expr} {tl th:TO} {p2:Pos} (hr:SlR X r) (he:WE X e te) (hl:WO X lo tl) (hu:WO X hi th):WE X (.Subscript e (.Slice lo hi none p2) pos) (tSl r te tl th):=⟨An3 hr he.un hl.un hu.un⟩
theorem Azu:WPs X pos [] [] []:=⟨Atd⟩
theorem Atz (hk:WE X k ta) (hv:WE X v tb) (hr:WPs X pos ks vs trs):WPs X pos (some k::ks) (v::vs) ((ta,tb)::trs):=⟨An9 hk.un hv.un hr.un⟩
theorem Bf9 (ho:OpR X (compareOp op) r) (ha:WE X a ta) (hb:WE X b tb) (hm:behindInMarks op b=false:=by kernel_rfl):WT X (.Compare a [op] [b] pos) (Aix (tOp r ta tb)):=⟨As1 ho ha.un hb.un hm⟩
theorem Azv (ho:OpR X (compareOp op) r) (ho':OpR X (compareOp op') r') (ha:WE X a ta) (hb:WE X b tb) (hc:WE X c tc) (hm:lastMarks [op,op'] [b,c]=false:=by kernel_rfl):WT X (.Compare a [op,op'] [b,c] pos) (Aix (Xz r r' ta tb tc)):=⟨Anv ho ho' ha.un hb.un hc.un hm⟩
theorem Bga (ha:WT X a tA):WT X (.UnaryOp .Not a pos) (Bcq tA):=⟨Ayi ha.un⟩
theorem Bgb (h:WE X e te) (he:∀whole,isTrue e X.env whole=(do let v<-whole;standAt e.pos;holding [v] (truthy v)):=by intro _;rfl):WT X e (tB te):=⟨Ayf h.un he⟩
theorem Bgc (ha:WT X a tA) (hb:WW X (.BoolOp .And (b::rest) pos) tB'):WW X (.BoolOp .And (a::b::rest) pos) (Bcp tA tB'):=⟨Ayh ha.un hb.un⟩
theorem tor (ha:WT X a tA) (hb:WW X (.BoolOp .Or (b::rest) pos) tB'):WW X (.BoolOp .Or (a::b::rest) pos) (tOr tA tB'):=⟨Bcr ha.un hb.un⟩
theorem Bdu (ha:WT X a tA):WW X (.BoolOp .And [a] pos) tA:=⟨Asp ha.un⟩
theorem Bgd (ha:WT X a tA):WW X (.BoolOp .Or [a] pos) tA:=⟨Ayg ha.un⟩
theorem tw (h:WW X a tA):WT X a tA:=⟨h.un.pt⟩
theorem Azw:WA X [] An0:=⟨Agy⟩
theorem At0 (ha:WE X e te) (hr:WA X es t) (hs:starEach (e::es) X.env=(false,eval e X.env)::starEach es X.env:=by kernel_rfl):WA X (e::es) (Aeb te t):=⟨Xg ha.un hr.un hs⟩
theorem Azx {n:Nat} (D:Og X.K X.mg x df ps f fd) (F:Gw X.prog X.w X.K X.mg X.base CX n f fd ps sp cm) (hr:Hc n X.A cm) (hx:Du CX X E) (ha:WA X (e::es) t)
  (hg:X.env.kindOf x=some .globalImplicit:=by kernel_rfl) (hdb:(x==("__debug__":Str))=false:=by kernel_rfl) (he:starEach (e::es) X.env=(false,eval e X.env)::starEach es X.env:=by kernel_rfl) (hpl:(backTo pos (starEach es X.env)).any (·.1)=false:=by kernel_rfl) :
  WE X (.Call (.Name x p) (e::es) [] pos) (Ag7 sp [] E t):=⟨Azo D F hr hx ha.un hg hdb he hpl⟩
theorem kbi {id:String} {r:List V->Hp->VK->Prop} (hc:Hh X (.builtin id) r) (hm:X.mg x=none) (hv:bootBuiltins x=some (.builtin id)) (ha:WA X (e::es) t) (hg:X.env.kindOf x=some .globalImplicit:=by kernel_rfl) (hn:decide (x=("__name__":Str))=false:=by kernel_rfl)
  (hdb:(x==("__debug__":Str))=false:=by kernel_rfl) (he:starEach (e::es) X.env=(false,eval e X.env)::starEach es X.env:=by kernel_rfl) (hpl:(backTo pos (starEach es X.env)).any (·.1)=false:=by kernel_rfl) :
  WE X (.Call (.Name x p) (e::es) [] pos) (tCB r t):=⟨pbi hc hm hv ha.un hg (of_decide_eq_false hn) hdb he hpl⟩
theorem Aos {i:Nat} (nd:decide X.N.Nodup=true:=by kernel_rfl) (hi:X.N[i]?=some x:=by kernel_rfl) (hl:Ahc X.env.scope x=true:=by kernel_rfl) (hf:(X.fn x||decide (X.env.scope.names.lookup x=some .local))=true:=by kernel_rfl) :
  WG X (.Name x pos) (Mp i):=⟨Asu (of_decide_eq_true nd) hi (Aor hl) (by
 rcases or_eq_true_iff.mp hf with h|h
 .exact .inl h
 .exact .inr (of_decide_eq_true h))⟩
theorem At1 (hm:X.mg "range"=none) (ha:WA X [a] t) (hg:X.env.kindOf "range"=some .globalImplicit:=by kernel_rfl) (hs:starEach [a] X.env=[(false,eval a X.env)]:=by kernel_rfl):WI X tg (.Call (.Name "range" p) [a] [] pos) (Axp t):=⟨Akw hg hm ha.un hs⟩
theorem Azy (h:WE X e te):WI X tg e (Bdr te):=⟨Azn h.un⟩
theorem At2 (h:WE X e te):WI X tg e (Axo X.K te):=⟨Asx h.un⟩
theorem Azz (h:WE X e te):WI X tg e (Bc1 X.K te):=⟨Ays h.un⟩
theorem At3 {kt j:Nat} (hm:X.mg "enumerate"=none) (he:WE X e te) (hg:X.env.kindOf "enumerate"=some .globalImplicit:=by kernel_rfl) (hs:starEach [e] X.env=[(false,eval e X.env)]:=by kernel_rfl) :
  WI X (.Tuple elts kt tpos) (.Call (.Name "enumerate" p) [e] [⟨some "start",.Constant (.int 1) j cpos,kpos⟩] pos) (Axv te):=⟨Atv hg hm he.un hs⟩
theorem At4:WTs X [] Ai4:=⟨Atj⟩
theorem At5 (h:WT X c tA):WTs X [c] tA:=⟨Atk h.un⟩
theorem Bdv {cap:List Nat} (hc:X.calm=true) (hE:X.env.scope=sc)
  (hi:WI X tg iter wi) (hg:∀C s H ex,WG (X.comp scope own cap C s H ex) tg g) (ht:∀C s H ex,WTs (X.comp scope own cap C s H ex) ifs tt) (he:∀C s H ex,WE (X.comp scope own cap C s H ex) elt te)
  (hcap:cap.all (fun j=>match X.N[j]? with|some x=>decide (scope.names.lookup x=some .free)|none=>false)=true:=by kernel_rfl) (az:scope.kind=.function:=by kernel_rfl) (ao:scope.names.all (fun y=>decide (y.2≠.cell))=true:=by kernel_rfl)
  (au:scope.names.all (fun y=>!decide (y.2=.local)||decide (scope.names.lookup y.1=some .local))=true:=by kernel_rfl)
  (bc:scope.names.all (fun y=>!decide (y.2=.free)||(decide (sc.names.lookup y.1=some .cell)||decide (sc.names.lookup y.1=some .free)))=true:=by kernel_rfl) (hs:∀x,foldedSetIterable iter X.env x=pure x:=by intro _;rfl) :
  WE X (.ListComp elt [⟨tg,iter,ifs,0⟩] scope pos) (Aaz wi g tt te own cap):=by
 refine⟨Atl hc hE hi.un (fun C s H ex=>(hg C s H ex).un) (fun C s H ex=>(ht C s H ex).un) (fun C s H ex=>(he C s H ex).un) (fun j hj=>?_) az (fun y hy=>?_) (fun y hy hl=>?_) (fun y hy hl=>?_) hs⟩
 .have q:=all_eq_true.mp hcap j hj;cases e:X.N[j]? with
  |none=>rw[e] at q;cases q
  |some x=>rw[e] at q;exact⟨x,rfl,of_decide_eq_true q⟩
 .exact of_decide_eq_true (all_eq_true.mp ao y hy)
 .have q:=all_eq_true.mp au y hy;rw[decide_eq_true hl] at q;exact of_decide_eq_true q
 .have q:=all_eq_true.mp bc y hy;rw[decide_eq_true hl] at q;rcases or_eq_true_iff.mp q with z|z
  .cases z
  rcases or_eq_true_iff.mp z with z|z
  .exact .inl (of_decide_eq_true z)
  .exact .inr (of_decide_eq_true z)
theorem Bge {i:Nat} (he:WE X e te) (nd:decide X.N.Nodup=true:=by kernel_rfl) (hi:X.N[i]?=some x:=by kernel_rfl) (hl:Ahc X.env.scope x=true:=by kernel_rfl) (hs:swapsWith e (some (.Name x pos')) pos.line X.env=pure false:=by kernel_rfl)
  (hf:X.fn x=true:=by kernel_rfl):WS X (.Assign [.Name x pos'] e pos) (Asw te (Mp i)):=⟨Ayq (of_decide_eq_true nd) hi (Aor hl) he.un hs (.inl hf)⟩
theorem Bgf (h:WE X e te):WS X (.Return (some e) pos) (Bcw te):=⟨Ayn h.un⟩
theorem Bdw (h:WE X e te) (hs:swapsWith e none pos.line X.env=pure false:=by kernel_rfl):WS X (.Expr e pos) (Axm te):=⟨Aiv h.un hs⟩
theorem sif {tc:TT} {A B:List Stmt} (hc:WT X c tc) (ha:WSs X A u) (hb:WSs X B u'):WS X (.If c A B pos) (Bcy tc u u'):=⟨Bcz hc.un ha.un hb.un⟩
theorem Bdx (hu:X.A.units+1 < cLine) (ho:WE X o ta) (hi:WE X b tb) (hv:WE X v tc) (hs:swapsWith v (some (.Subscript o b pos')) pos.line X.env=pure false:=by kernel_rfl):WS X (.Assign [.Subscript o b pos'] v pos) (Axt ta tb tc):=⟨Atc hu ho.un hi.un hv.un hs⟩
theorem Az0 (hx:Aad X.K C) (hm:X.mg x=some (.ref C)) (hc:X.calm=true) (hR:Raises X E) (ha:WA X (e::es) t) (hg:X.env.kindOf x=some .globalImplicit:=by kernel_rfl)
  (hd:(x==("__debug__":Str))=false:=by kernel_rfl) (he:starEach (e::es) X.env=(false,eval e X.env)::starEach es X.env:=by kernel_rfl) (hpl:(backTo cpos (starEach es X.env)).any (·.1)=false:=by kernel_rfl) :
  WS X (.Raise (some (.Call (.Name x p) (e::es) [] cpos)) none pos) (Aoe t C E):=⟨Aof hx hg hm hc hR ha.un hd he hpl⟩
theorem Bgg {body suite:List Stmt} {b0:Stmt} {n:Str} {C:Addr} {i:Nat} {np hpos:Pos} {tb:(St->XK)->TS} {th:TS} (bh:X.stack=X.env::X.outer) (hfr:X.env.frame=some X.env.locals) (nd:X.N.Nodup) (hm:X.mg x=some (.ref C))
  (hb:∀(pn:List (Addr×Obj)) (xe:Value->Shared->Prop) (E:St->XK),Du (CXo X.prog X.w) (X.tryB pn xe) E->WSs (X.tryB pn xe) body (tb E)) (hs:∀e,WSs (X.suite e) (b0::suite) th)
  (hi:X.N[i]?=some n:=by kernel_rfl) (hn:X.env.scope.names.lookup n=some .local:=by kernel_rfl) (hg:X.env.kindOf x=some .globalImplicit:=by kernel_rfl) (hd:(x==("__debug__":Str))=false:=by kernel_rfl) :
  WS X (.Try body [.ExceptHandler (some (.Name x np)) (some n) (b0::suite) hpos] [] [] pos) (Bdp X.K C i tb th):=⟨Azk bh hfr nd hi hn hg hm hd (hb:=fun pn xe E hx=>(hb pn xe E hx).un) (hs:=fun e=>(hs e).un)⟩
theorem Bgh:WSs X [] Anp:=⟨Asq⟩
theorem Bdy (h:WS X st u) (q:WSs X sts u'):WSs X (st::sts) (Bcu u u'):=⟨Ad9 h.un q.un⟩
end
section
variable {P:Program} {w:World} {K:PySem.W.Frag} {mg:Str->Option Value} {base:Heap}
theorem Fun.okW {cm:Bool} {x aj:Str} {st:Stmt} {f:Addr} {fd:FuncData} {N ps:List Str} {k:Nat} {sp:Sp} (F:Fun K x aj st f fd) (S:Fj N ps (Ak st)) (len:∀vs H Q E,sp vs H Q E->vs.length=ps.length)
  (hbody:∀(cdv:Value) (A:Around) (outer:List Env) (s:Shared) (H:Hp) (vs:List V) (Q:VK) (E:XK),Hc k (A.deeper (envOfC aj (Ak st) s.heap.objs.size f cdv)) cm->sp vs H Q E->
   ∃t,WSs (Ss (CXo P w) P w K mg base N aj (Ak st) f cdv A outer s H E cm) (Aq st) t/\t { nx:=fun _ H'=>Q .non H',rt:=Q } (start N vs) H):Gw P w K mg base (CXo P w) (k+1) f fd ps sp cm:=
 F.okX S len fun cdv A outer s H vs Q E hr hsp=>by
  obtain⟨t,ht,q⟩:=hbody cdv A outer s H vs Q E hr hsp;exact⟨t,ht.un,q⟩
end
open PySem.Builtin.SmallTypes in
structure Nx (P:Program) (w:World) (i l:Addr) (St:Nat->Heap->Prop) (Sc:Array Value->Heap->Prop):Prop where
 live:∀k h,St k h->∃o,h.get? i=some o/\∀v,o.data≠.cell v
 keep:∀k h h',St k h->(∀o,h.get? i=some o->h'.get? i=some o)->St k h'
 src:∀xs h h',Sc xs h->(∀o,h.get? l=some o->h'.get? l=some o)->Sc xs h'
 item:∀(A:Around) (k:Nat) (s:Shared) (xs:Array Value) (x:Value) (Q:Value->Shared->Prop) (E:Value->Shared->Prop),St k s.heap->Sc xs s.heap->xs[k]?=some x->(∀h',St (k+1) h'->SameBut i s.heap h'->Q x { s with heap:=h' })->
  wpAny (model P w) A (nextOf (.ref i)) Q E s
 done:∀(A:Around) (k:Nat) (s:Shared) (xs:Array Value) (Q:Value->Shared->Prop) (E:Value->Shared->Prop),A.handled=none->St k s.heap->Sc xs s.heap->xs[k]?=none->
  (∀h' e,ExtBut i s.heap h'->(∃o,h'.get? e=some o/\o.cls=.type "StopIteration")->E (.ref e) { s with heap:=h' })->wpAny (model P w) A (nextOf (.ref i)) Q E s
section
variable {prog:Program} {w:World} {A:Around} {E:Value->Shared->Prop} {s:Shared}
open PySem.Builtin.SmallTypes in
theorem At6 {k:Nat} (st:s.heap.IsTupleIter it l k) (hl:s.heap.IsTuple l xs) (hx:xs[k]?=some x)
  (go:∀h',h'.IsTupleIter it l (k+1)->SameBut it s.heap h'->Q x { s with heap:=h' }):wpAny (model prog w) A (nextOf (.ref it)) Q E s:=by
 obtain⟨oi,hi,ci,di⟩:=id st;obtain⟨ot,ht,_,n,dt⟩:=hl;unfold nextOf;refine wpAny_bind (wpAny_callSpecial?_slot (name:=Str.ofString "__next__") st.typeIs F.slot_tuple_iterator_next (wpAny_call_entry F.slot_tuple_iterator_next st.typeIs F.entry_tuple_iterator_next ?_ (F.args_tuple_iterator_next_1 _)));refine wpAny_bind (m:=field (.ref it) 0) (wpAny_field hi di (x:=.ref l) rfl ?_);have nn:¬ ((Value.ref l==Value.none)=true):=Bool.false_ne_true;show wpAny _ _ (if (Value.ref l==Value.none)=true then _ else _) _ _ s
 rw[if_neg nn];refine wpAny_bind (m:=field (.ref it) 1) (wpAny_field hi di (x:=.int k 0) rfl (wpAny_bind (m:=seqItems? (.ref l)) (wpAny_seqItems ht dt ?_)));simp only[toNat_natCast,hx];refine wpAny_bind (wpAny_setField hi di (by simp) (wpAny_pure ⟨x,rfl,wpAny_pure (go _ ⟨_,get?_update_self _ hi (Obj.isFreed_of_fields (Obj.data_mapFields di _)),(Obj.cls_mapFields ..).trans ci,?_⟩ (SameBut.update ..))⟩))
 rw[Obj.data_mapFields di];simp[rawInt]
open PySem.Builtin.SmallTypes in
theorem At7 {k:Nat} (hh:A.handled=none) (st:s.heap.IsTupleIter it l k) (hl:s.heap.IsTuple l xs) (hx:xs[k]?=none)
  (go:∀h' e,ExtBut it s.heap h'->(∃o,h'.get? e=some o/\o.cls=.type "StopIteration")->E (.ref e) { s with heap:=h' }):wpAny (model prog w) A (nextOf (.ref it)) Q E s:=by
 obtain⟨oi,hi,ci,di⟩:=id st;obtain⟨ot,ht,_,n,dt⟩:=hl;unfold nextOf;refine wpAny_bind (wpAny_callSpecial?_slot (name:=Str.ofString "__next__") st.typeIs F.slot_tuple_iterator_next (wpAny_call_entry F.slot_tuple_iterator_next st.typeIs F.entry_tuple_iterator_next ?_ (F.args_tuple_iterator_next_1 _)));refine wpAny_bind (m:=field (.ref it) 0) (wpAny_field hi di (x:=.ref l) rfl ?_);have nn:¬ ((Value.ref l==Value.none)=true):=Bool.false_ne_true;show wpAny _ _ (if (Value.ref l==Value.none)=true then _ else _) _ _ s
 rw[if_neg nn];refine wpAny_bind (m:=field (.ref it) 1) (wpAny_field hi di (x:=.int k 0) rfl (wpAny_bind (m:=seqItems? (.ref l)) (wpAny_seqItems ht dt ?_)));simp only[toNat_natCast,hx];refine wpAny_bind (wpAny_rule (wpAny_bind (wpAny_setField hi di (by simp) ?_)))
 refine wpAny_bind (m:=newExc (.type "StopIteration") []) ?_;simp only[newExc,newTuple];refine wpAny_bind (wpAny_newObj_type ?_ (by size_fits))
 refine wpAny_bind (m:=firstArgMember _ _) (wpAny_of_eq (a:=Value.none) (by first|rfl|(simp only[firstArgMember];rfl)) (wpAny_newObj_type ?_ (by size_fits)))
 simp only[raiseNew];refine wpAny_bind (wpAny_handled ?_);rw[show A.in1.handled=none from hh];exact wpAny_bind (wpAny_pure (wpAny_throw (go _ _ (((SameBut.update ..).extBut.push _).push _) ⟨_,get?_push_size _ rfl,rfl⟩)))
theorem Aot (i l:Addr):Nx P w i l (fun k h=>h.IsTupleIter i l k) (fun xs h=>h.IsTuple l xs) where
 live:=fun k h st=>by obtain⟨o,ho,_,hd⟩:=st;exact⟨o,ho,fun v z=>by rw[hd] at z;cases z⟩
 keep:=fun k h h' st k1=>st.at k1
 src:=fun xs h h' st k2=>let ⟨o,ho,r⟩:=st;⟨o,k2 o ho,r⟩
 item:=fun A k s xs x Q E st sc hx go=>At6 st sc hx go
 done:=fun A k s xs Q E hh st sc hx go=>At7 hh st sc hx go
theorem At8 (i l:Addr):Nx P w i l (fun k h=>h.IsListIter i l k) (fun xs h=>h.IsList l xs) where
 live:=fun k h st=>by obtain⟨o,ho,_,hd⟩:=st;exact⟨o,ho,fun v z=>by rw[hd] at z;cases z⟩
 keep:=fun k h h' st k1=>st.at k1
 src:=fun xs h h' st k2=>st.at k2
 item:=fun A k s xs x Q E st sc hx go=>wpAny_nextOf_list_item st sc hx go
 done:=fun A k s xs Q E hh st sc hx go=>wpAny_nextOf_list_end hh st sc hx go
structure ZA (z TI TO i1 i2 l1 l2:Addr):Prop where
 a:[z,TI,TO,i1,i2].Nodup
 b1:l1∉[z,TI,TO,i1,i2]
 b2:l2∉[z,TI,TO,i1,i2]
section
variable {St1 St2:Nat->Heap->Prop} {Sc1 Sc2:Array Value->Heap->Prop} {z TI TO i1 i2 l1 l2:Addr} {k:Nat} {xs ys:Array Value} {x y a b:Value}
theorem ZA.ne (D:ZA z TI TO i1 i2 l1 l2):z≠TI/\z≠TO/\z≠i1/\z≠i2/\TI≠TO/\TI≠i1/\TI≠i2/\TO≠i1/\TO≠i2/\i1≠i2:=by
 have h:=D.a;simp only[nodup_cons,mem_cons,not_mem_nil,or_false,not_or,not_false_eq_true,List.nodup_nil,and_true] at h;obtain⟨⟨h1,h2,h3,h4⟩,⟨h5,h6,h7⟩,⟨h8,h9⟩,h10⟩:=h;exact⟨h1,h2,h3,h4,h5,h6,h7,h8,h9,h10⟩
open PySem.Builtin PySem.Builtin.SmallTypes in
theorem Aou (n1:Nx prog w i1 l1 St1 Sc1) (n2:Nx prog w i2 l2 St2 Sc2) (D:ZA z TI TO i1 i2 l1 l2) {Q:Value->Shared->Prop} (hz:IsZip s.heap z TI TO .none) (hTI:IsPair s.heap TI (.ref i1) (.ref i2)) (hTO:IsPair s.heap TO a b)
  (s1:St1 k s.heap) (s2:St2 k s.heap) (c1:Sc1 xs s.heap) (c2:Sc2 ys s.heap) (hx:xs[k]?=some x) (hy:ys[k]?=some y)
  (go:∀h',IsZip h' z TI TO (rawInt s.heap.objs.size)->IsPair h' TO x y->St1 (k+1) h'->St2 (k+1) h'->IsPair h' s.heap.objs.size x y->(∀c o,c∉[z,TO,i1,i2]->s.heap.get? c=some o->h'.get? c=some o)->Q (.ref s.heap.objs.size) { s with heap:=h' }) :
  wpAny (model prog w) A («zip.__next__» ⟨[.ref z],[]⟩) (fun fin s'=>∃v,fin=.done (.ret v)/\Q v s') E s:=by
 obtain⟨d1,d2,d3,d4,d5,d6,d7,d8,d9,d10⟩:=D.ne;have b1:=D.b1;have b2:=D.b2;simp only[mem_cons,not_mem_nil,or_false,not_or] at b1 b2;refine wpAny_bind (m:=field (.ref z) 2) (wpAny_field hz rfl (x:=.bool false) rfl (wpAny_bind (m:=field (.ref z) 3) (wpAny_field hz rfl (x:=.ref TI) rfl (wpAny_bind (wpAny_seqItems hTI rfl ?_)))));refine wpAny_bind (m:=ownedTupleIsFree (.ref z)) ?_;unfold ownedTupleIsFree;refine wpAny_bind (wpAny_field hz rfl (x:=.none) rfl (wpAny_pure ?_));simp only[if_true];refine wpAny_bind (wpAny_rule (wpAny_bind (wpAny_field hz rfl (x:=.ref TO) rfl (wpAny_bind (wpAny_setField_rec hz (by simp) fun h1 z1 e1=>wpAny_bind ?_)))))
 have z1:IsZip h1 z TI TO .ellipsis:=z1;simp only[List.zipIdx_cons,List.zipIdx_nil,forIn_cons,List.forIn_nil];refine wpAny_bind (wpAny_bind (wpAny_onRaise (wpAny_bind (m:=nextOf (.ref i1)) ?_)));have keep1:∀c o,c≠z->s.heap.get? c=some o->h1.get? c=some o:=fun c o hc q=>e1.extBut _ _ hc q;refine n1.item _ k _ xs x _ _ (n1.keep _ _ _ s1 fun o q=>keep1 _ o d3.symm q) (n1.src _ _ _ c1 fun o q=>keep1 _ o b1.1 q) hx fun h2 t2 e2=>wpAny_pure ?_;have o2:IsPair h2 TO a b:=e2.extBut _ _ d8 (keep1 _ _ d2.symm hTO);refine wpAny_bind (wpAny_seqItems o2 rfl (wpAny_bind (wpAny_updateSeq_pair o2 fun h3 o3 e3=>wpAny_bind (wpAny_letGo (wpAny_pure ?_)))));have o3:IsPair h3 TO x b:=o3;refine wpAny_bind (wpAny_bind (wpAny_onRaise (wpAny_bind (m:=nextOf (.ref i2)) ?_)));have keep3:∀c o,c≠z->c≠TO->c≠i1->s.heap.get? c=some o->h3.get? c=some o:=fun c o q1 q2 q3 q=>e3.extBut _ _ q2 (e2.extBut _ _ q3 (keep1 c o q1 q));refine n2.item _ k _ ys y _ _ (n2.keep _ _ _ s2 fun o q=>keep3 _ o d4.symm d9.symm d10.symm q) (n2.src _ _ _ c2 fun o q=>keep3 _ o b2.1 b2.2.2.1 b2.2.2.2.1 q) hy fun h4 t4 e4=>wpAny_pure ?_;have o4:IsPair h4 TO x b:=e4.extBut _ _ d9 o3;refine wpAny_bind (wpAny_seqItems o4 rfl (wpAny_bind (wpAny_updateSeq_pair o4 fun h5 o5 e5=>wpAny_bind (wpAny_letGo (wpAny_pure (wpAny_pure ?_))))));have o5:IsPair h5 TO x y:=o5;refine wpAny_bind (wpAny_seqItems o5 rfl (wpAny_bind (wpAny_newTuple ?_)));have sz:h5.objs.size=s.heap.objs.size:=by rw[e5.1,e4.1,e3.1,e2.1,e1.1]
 have z5:IsZip h5 z TI TO .ellipsis:=e5.extBut _ _ d2 (e4.extBut _ _ d4 (e3.extBut _ _ d2 (e2.extBut _ _ d3 z1)));have keep5:∀c o,c∉[z,TO,i1,i2]->s.heap.get? c=some o->h5.get? c=some o:=fun c o hc q=>by
  simp only[mem_cons,not_mem_nil,or_false,not_or] at hc;exact e5.extBut _ _ hc.2.1 (e4.extBut _ _ hc.2.2.2 (keep3 c o hc.1 hc.2.1 hc.2.2.1 q))
 have zl:z < h5.objs.size:=lt_size z5;refine wpAny_bind (m:=ownedTupleHandOut (.ref z) (.ref h5.objs.size)) ?_;unfold ownedTupleHandOut;have z6:IsZip (h5.push { cls:=.type "tuple",data:=.seq #[x,y] }) z TI TO .ellipsis:=get?_push_of_some _ z5;refine wpAny_bind (wpAny_setField_rec z6 (by simp) fun h7 z7 e7=>?_)
 have z7:IsZip h7 z TI TO (rawInt h5.objs.size):=z7;refine wpAny_setField_rec z7 (by simp) fun h8 z8 e8=>wpAny_pure ⟨_,rfl,?_⟩
 have z8:IsZip h8 z TI TO (rawInt h5.objs.size):=z8;have up:∀c o,c≠z->h5.get? c=some o->h8.get? c=some o:=fun c o hc q=>e8.extBut _ _ hc (e7.extBut _ _ hc (get?_push_of_some _ q));have new:IsPair h8 h5.objs.size x y:=e8.extBut _ _ (ne_of_gt zl) (e7.extBut _ _ (ne_of_gt zl) (get?_push_size _ rfl));show Q (.ref h5.objs.size) _;rw[sz] at z8 new ⊢
 refine go h8 z8 (up _ _ d2.symm o5) (n1.keep _ _ _ t2 fun o q=>up _ o d3.symm (e5.extBut _ _ d8.symm (e4.extBut _ _ d10 (e3.extBut _ _ d8.symm q)))) (n2.keep _ _ _ t4 fun o q=>up _ o d4.symm (e5.extBut _ _ d9.symm q)) new fun c o hc q=>?_;exact up c o (fun w=>hc (by simp[w])) (keep5 c o hc q)
open PySem.Builtin PySem.Builtin.SmallTypes in
theorem Aov (n1:Nx prog w i1 l1 St1 Sc1) (n2:Nx prog w i2 l2 St2 Sc2) (D:ZA z TI TO i1 i2 l1 l2) (hh:A.handled=none) (hz:IsZip s.heap z TI TO .none) (hTI:IsPair s.heap TI (.ref i1) (.ref i2)) (hTO:IsPair s.heap TO a b)
  (s1:St1 k s.heap) (s2:St2 k s.heap) (c1:Sc1 xs s.heap) (c2:Sc2 ys s.heap) (he:xs[k]?=none\/ys[k]?=none)
  (go:∀h' e,(∀c o,c∉[z,TO,i1,i2]->s.heap.get? c=some o->h'.get? c=some o)->(∃o,h'.get? e=some o/\o.cls=.type "StopIteration")->E (.ref e) { s with heap:=h' }) :
  wpAny (model prog w) A («zip.__next__» ⟨[.ref z],[]⟩) Q E s:=by
 obtain⟨d1,d2,d3,d4,d5,d6,d7,d8,d9,d10⟩:=D.ne;have b1:=D.b1;have b2:=D.b2;simp only[mem_cons,not_mem_nil,or_false,not_or] at b1 b2;refine wpAny_bind (m:=field (.ref z) 2) (wpAny_field hz rfl (x:=.bool false) rfl (wpAny_bind (m:=field (.ref z) 3) (wpAny_field hz rfl (x:=.ref TI) rfl (wpAny_bind (wpAny_seqItems hTI rfl ?_)))));refine wpAny_bind (m:=ownedTupleIsFree (.ref z)) ?_;unfold ownedTupleIsFree;refine wpAny_bind (wpAny_field hz rfl (x:=.none) rfl (wpAny_pure ?_));simp only[if_true];refine wpAny_bind (wpAny_rule (wpAny_bind (wpAny_field hz rfl (x:=.ref TO) rfl (wpAny_bind (wpAny_setField_rec hz (by simp) fun h1 z1 e1=>wpAny_bind ?_)))))
 have z1:IsZip h1 z TI TO .ellipsis:=z1;simp only[List.zipIdx_cons,List.zipIdx_nil,forIn_cons,List.forIn_nil];refine wpAny_bind (wpAny_bind (wpAny_onRaise (wpAny_bind (m:=nextOf (.ref i1)) ?_)));have keep1:∀c o,c≠z->s.heap.get? c=some o->h1.get? c=some o:=fun c o hc q=>e1.extBut _ _ hc q;have t1:=n1.keep _ _ _ s1 fun o q=>keep1 _ o d3.symm q;have r1:=n1.src _ _ _ c1 fun o q=>keep1 _ o b1.1 q;cases hx:xs[k]? with
 |none=>
  refine n1.done _ k _ xs _ _ hh t1 r1 hx fun h2 e e2 he'=>?_;obtain⟨oe,q1,q2⟩:=he';have z2:IsZip h2 z TI TO .ellipsis:=e2 _ _ d3 z1;have ez:e≠z:=fun w=>by subst w;rw[z2] at q1;cases q1;simp at q2
  refine wpAny_setField_rec z2 (by simp) fun h3 _ e3=>go h3 e (fun c o hc q=>?_) ⟨oe,e3.extBut _ _ ez q1,q2⟩
  simp only[mem_cons,not_mem_nil,or_false,not_or] at hc;exact e3.extBut _ _ hc.1 (e2 _ _ hc.2.2.1 (keep1 c o hc.1 q))
 |some x=>
  have hy:ys[k]?=none:=by
   rcases he with q|q
   .rw[hx] at q;cases q
   .exact q
  refine n1.item _ k _ xs x _ _ t1 r1 hx fun h2 t2 e2=>wpAny_pure ?_;have o2:IsPair h2 TO a b:=e2.extBut _ _ d8 (keep1 _ _ d2.symm hTO);refine wpAny_bind (wpAny_seqItems o2 rfl (wpAny_bind (wpAny_updateSeq_pair o2 fun h3 o3 e3=>wpAny_bind (wpAny_letGo (wpAny_pure ?_)))));refine wpAny_bind (wpAny_bind (wpAny_onRaise (wpAny_bind (m:=nextOf (.ref i2)) ?_)));have keep3:∀c o,c≠z->c≠TO->c≠i1->s.heap.get? c=some o->h3.get? c=some o:=fun c o q1 q2 q3 q=>e3.extBut _ _ q2 (e2.extBut _ _ q3 (keep1 c o q1 q));refine n2.done _ k _ ys _ _ hh (n2.keep _ _ _ s2 fun o q=>keep3 _ o d4.symm d9.symm d10.symm q) (n2.src _ _ _ c2 fun o q=>keep3 _ o b2.1 b2.2.2.1 b2.2.2.2.1 q) hy fun h4 e e4 he'=>?_;obtain⟨oe,q1,q2⟩:=he';have z4:IsZip h4 z TI TO .ellipsis:=e4 _ _ d4 (e3.extBut _ _ d2 (e2.extBut _ _ d3 z1));have ez:e≠z:=fun w=>by subst w;rw[z4] at q1;cases q1;simp at q2
  refine wpAny_setField_rec z4 (by simp) fun h5 _ e5=>go h5 e (fun c o hc q=>?_) ⟨oe,e5.extBut _ _ ez q1,q2⟩
  simp only[mem_cons,not_mem_nil,or_false,not_or] at hc;exact e5.extBut _ _ hc.1 (e4 _ _ hc.2.2.2 (keep3 c o hc.1 hc.2.1 hc.2.2.1 q))
end
end
def Sq2 (K:PySem.W.Frag) (T:Bool) (H:Hp) (a:Addr) (xs:List V):Prop:=match T with
 |true=>SqT K H a xs
 |false=>SqL K H a xs
def St2 (T:Bool) (i l:Addr) (k:Nat) (h:Heap):Prop:=match T with
 |true=>h.IsTupleIter i l k
 |false=>h.IsListIter i l k
def Sc2 (T:Bool) (l:Addr) (xs:Array Value) (h:Heap):Prop:=match T with
 |true=>h.IsTuple l xs
 |false=>h.IsList l xs
theorem nx2 (T:Bool) (i l:Addr):Nx P w i l (St2 T i l) (Sc2 T l):=by
 cases T
 .exact At8 i l
 .exact Aot i l
section
theorem Inv.sq2 (I:Inv X aa σ H s) (h:Sq2 X.K T H a xs):∃its:List Value,Vals xs its/\Sc2 T a its.toArray s.heap:=by
 cases T
 .obtain⟨its,r,p,_⟩:=I.list h;exact⟨its,r,p.isList⟩
 .obtain⟨its,r,p,_⟩:=I.tuple h;exact⟨its,r,p⟩
theorem Inv.sq2_inj (I:Inv X aa σ H s) (h:Sq2 X.K T H a xs) (h':Sq2 X.K T H a ys):xs=ys:=by
 cases T
 .exact I.list_inj h h'
 .exact I.tuple_inj h h'
end
def Itz (K:PySem.W.Frag) (T:Bool) (a b:Addr):It:=⟨fun i H=>∃xs ys x y,Sq2 K T H a xs/\Sq2 K T H b ys/\xs[i]?=some x/\ys[i]?=some y,
 fun i H v H'=>∃p x y,(∀xs,Sq2 K T H a xs->xs[i]?=some x)/\(∀ys,Sq2 K T H b ys->ys[i]?=some y)/\H p=none/\v=.ref p/\H'=upd H p (.tup [x,y]),
 fun i H=>∃xs ys,Sq2 K T H a xs/\Sq2 K T H b ys/\(xs.length<=i\/ys.length<=i)⟩
def zSt (T:Bool) (z TI TO i1 i2 a b:Addr) (i:Nat) (h:Heap):Prop:=IsZip h z TI TO .none/\IsPair h TI (.ref i1) (.ref i2)/\(∃u v,IsPair h TO u v)/\St2 T i1 a i h/\St2 T i2 b i h
theorem Aow {P:Program} {w:World} {K:PySem.W.Frag} {elts:List Expr} {kt:Nat} {tpos:Pos} (T:Bool) (z TI TO i1 i2 a b:Addr) (D:ZA z TI TO i1 i2 a b) :
  Turn P w K (.Tuple elts kt tpos) (Itz K T a b) [z,TI,TO,i1,i2] z (zSt T z TI TO i1 i2 a b) where
 mem:=by simp
 obj:=fun i h st c hc=>by
  obtain⟨hz,hTI,⟨u,v,hTO⟩,t1,t2⟩:=st;simp only[mem_cons,not_mem_nil,or_false] at hc;rcases hc with rfl|rfl|rfl|rfl|rfl
  .exact⟨_,hz,fun v q=>by have q:Data.fields _=Data.cell v:=q;cases q⟩
  .exact⟨_,hTI,fun v q=>by have q:Data.seq _ _=Data.cell v:=q;cases q⟩
  .exact⟨_,hTO,fun v q=>by have q:Data.seq _ _=Data.cell v:=q;cases q⟩
  .exact(nx2 (P:=P) (w:=w) T _ a).live _ _ t1
  .exact(nx2 (P:=P) (w:=w) T _ b).live _ _ t2
 keep:=fun i h h' st k=>by
  obtain⟨hz,hTI,⟨u,v,hTO⟩,t1,t2⟩:=st;exact⟨k z (by simp) _ hz,k TI (by simp) _ hTI,⟨u,v,k TO (by simp) _ hTO⟩,(nx2 (P:=P) (w:=w) T i1 a).keep _ _ _ t1 (k i1 (by simp)),(nx2 (P:=P) (w:=w) T i2 b).keep _ _ _ t2 (k i2 (by simp))⟩
 item:=by
  intro X hP hw hK hc i aa s σ H E I hf st hg;subst hP hw hK;obtain⟨hz,hTI,⟨u,v,hTO⟩,t1,t2⟩:=st;obtain⟨xs,ys,x,y,qx,qy,ex,ey⟩:=hg;obtain⟨its,rx,cx⟩:=I.sq2 qx;obtain⟨jts,ry,cy⟩:=I.sq2 qy;obtain⟨ux,hux,rux⟩:=rx.get ex;obtain⟨uy,huy,ruy⟩:=ry.get ey;have hT:s.TypeIs (.ref z) "zip":=⟨_,hz,rfl⟩;have lt:∀{c:Addr} {o:Obj},s.heap.get? c=some o->c≠s.heap.objs.size:=fun e=>ne_of_lt (lt_size e);unfold pyNext;refine wpAny_bind (wpAny_attempt (wpAny_callSpecial?_slot (name:=Str.ofString "__next__") hT F.slot_zip_next (wpAny_call_entry F.slot_zip_next hT F.entry_zip_next
   (Aou (nx2 T i1 a) (nx2 T i2 b) D hz hTI hTO t1 t2 cx cy (x:=ux) (y:=uy) (by simpa using hux) (by simpa using huy) fun h' a1 a2 a3 a4 a5 hk=>wpAny_pure ⟨_,rfl,?_⟩) (F.args_zip_next_1 _))))
  refine wpAny_letOwnedTupleGo_zip (s:={ s with heap:=h' }) a1 fun h2 z2 e2=>?_
  obtain⟨d1,d2,d3,d4,d5,d6,d7,d8,d9,d10⟩:=D.ne;have k2:∀c o,c∉[z,TI,TO,i1,i2]->s.heap.get? c=some o->h2.get? c=some o:=fun c o hc q=>by
   simp only[mem_cons,not_mem_nil,or_false,not_or] at hc;exact e2.extBut _ _ hc.1 (hk c o (by simp[hc]) q)
  have hpn:H s.heap.objs.size=none:=I.hok.fresh (le_refl _);have nH:∀c u,H c=some u->c∉[z,TI,TO,i1,i2]:=fun c u q hc=>by rw[(hf c hc).1] at q;cases q
  have nz:s.heap.objs.size≠z:=(lt hz).symm;have hp2:IsTup h2 s.heap.objs.size #[ux,uy]:=⟨_,e2.extBut _ _ nz a5,rfl,_,rfl⟩;refine⟨.ref s.heap.objs.size,upd H s.heap.objs.size (.tup [x,y]),?_,rfl,⟨_,x,y,fun xs' q=>by rw[I.sq2_inj q qx];exact ex,fun ys' q=>by rw[I.sq2_inj q qy];exact ey,hpn,rfl,rfl⟩,
   ⟨z2,e2.extBut _ _ d1.symm (hk _ _ (by simp[d1.symm,d5,d6,d7]) hTI),⟨_,_,e2.extBut _ _ d2.symm a2⟩,(nx2 (P:=X.prog) (w:=X.w) T i1 a).keep _ _ _ a3 (fun o q=>e2.extBut _ _ d3.symm q),(nx2 (P:=X.prog) (w:=X.w) T i2 b).keep _ _ _ a4 (fun o q=>e2.extBut _ _ d4.symm q)⟩,fun c hc=>?_⟩
  .show Inv X aa σ (upd H s.heap.objs.size (.tup [x,y])) { s with heap:=h2,gens:=s.gens,drawn:=s.drawn,toks:=s.toks }
   refine I.step (s:=s) (g':=s.gens) (d':=s.drawn) (ch:=[z,TI,TO,i1,i2]) (fun c hc=>?_) (fun c o _ _ hc q _=>k2 c o hc q) (fun c o _ _ hc q _=>⟨o.slots,k2 c o hc q⟩) (fun c o _ q n=>by rw[Ax (lt q)];exact n)
    (fun c o hc q=>⟨o,k2 c o hc q⟩) (fun c xs q=>by rw[Ax (Bv q hpn)];exact q) (fun c o u q=>by rw[Ax (Bv q hpn)];exact q) (fun c ps q=>⟨#[],by rw[Ax (Bv q hpn),q];simp⟩) (fun m hm=>?_) (fun c u q=>?_) I.bare
   .obtain⟨f0,f1,f2,f3,f4,f5⟩:=hf c hc;exact⟨f3,f1,f4,f5⟩
   .obtain⟨o,es,ep,ho,r⟩:=hm;exact⟨o,es,ep,k2 _ o (fun hc=>(hf _ hc).2.1 rfl) ho,r⟩
   .by_cases hb:c=s.heap.objs.size
    .subst hb;rw[Bm] at q;cases q;exact⟨(show 2<=sizeLine by decide),_,.cons rux (.cons ruy .nil),hp2⟩
    .rw[Ax hb] at q;refine(I.hok c u q).stay (fun d v hd z=>k2 d v ?_ z) (fun d z=>by rw[Ax (Bv z hpn)];exact z) fun d xs z=>by rw[Ax (Bv z hpn)];exact z
     rcases hd with rfl|hd
     .exact nH d u q
     .exact nH d _ hd
  .obtain⟨o,ho,_⟩:∃o,s.heap.get? c=some o/\True:=by
    simp only[mem_cons,not_mem_nil,or_false] at hc;rcases hc with rfl|rfl|rfl|rfl|rfl
    .exact⟨_,hz,trivial⟩
    .exact⟨_,hTI,trivial⟩
    .exact⟨_,hTO,trivial⟩
    .obtain⟨o,ho,_⟩:=(nx2 (P:=X.prog) (w:=X.w) T _ a).live _ _ t1;exact⟨o,ho,trivial⟩
    .obtain⟨o,ho,_⟩:=(nx2 (P:=X.prog) (w:=X.w) T _ b).live _ _ t2;exact⟨o,ho,trivial⟩
   rw[Ax (lt ho)];exact(hf c hc).1
 done:=by
  intro X hP hw hK hc i aa s σ H E I hf st hg;subst hP hw hK;obtain⟨hz,hTI,⟨u,v,hTO⟩,t1,t2⟩:=st;obtain⟨xs,ys,qx,qy,he⟩:=hg;obtain⟨its,rx,cx⟩:=I.sq2 qx;obtain⟨jts,ry,cy⟩:=I.sq2 qy;have hT:s.TypeIs (.ref z) "zip":=⟨_,hz,rfl⟩;have he':its.toArray[i]?=none\/jts.toArray[i]?=none:=by
   rcases he with q|q
   .exact .inl (by rw[Array.getElem?_eq_none_iff,size_toArray,<-rx.length];exact q)
   .exact .inr (by rw[Array.getElem?_eq_none_iff,size_toArray,<-ry.length];exact q)
  have nH:∀c u,H c=some u->c∉[z,TI,TO,i1,i2]:=fun c u q hc=>by rw[(hf c hc).1] at q;cases q
  unfold pyNext;refine wpAny_bind (wpAny_attempt (wpAny_callSpecial?_slot (name:=Str.ofString "__next__") hT F.slot_zip_next (wpAny_call_entry F.slot_zip_next hT F.entry_zip_next
   (Aov (nx2 T i1 a) (nx2 T i2 b) D (show X.A.in1.handled=none from I.ok.hd hc) hz hTI hTO t1 t2 cx cy he' fun h' e hk q=>?_) (F.args_zip_next_1 _))))
  obtain⟨o,ho,hcl⟩:=q;refine wpAny_bind (wpAny_isInstance (T:="StopIteration") (b:=true) ⟨o,ho,hcl⟩ isSubtype_stop (wpAny_pure ⟨rfl,?_⟩));have k2:∀c o,c∉[z,TI,TO,i1,i2]->s.heap.get? c=some o->h'.get? c=some o:=fun c o hc q=>hk c o (fun m=>hc (by simp only[mem_cons,not_mem_nil,or_false] at m ⊢;rcases m with m|m|m|m <;> simp[m])) q
  refine I.step (s:=s) (g':=s.gens) (d':=s.drawn) (t':=s.toks) (h':=h') (ch:=[z,TI,TO,i1,i2]) (fun c hc=>?_) (fun c o _ _ hc q _=>k2 c o hc q) (fun c o _ _ hc q _=>⟨o.slots,k2 c o hc q⟩) (fun c o _ q n=>n)
   (fun c o hc q=>⟨o,k2 c o hc q⟩) (fun c xs q=>q) (fun c o u q=>q) (fun c ps q=>⟨#[],by rw[q];simp⟩) (fun m hm=>?_) (fun c u q=>?_) I.bare
  .obtain⟨f0,f1,f2,f3,f4,f5⟩:=hf c hc;exact⟨f3,f1,f4,f5⟩
  .obtain⟨o,es,ep,ho,r⟩:=hm;exact⟨o,es,ep,k2 _ o (fun hc=>(hf _ hc).2.1 rfl) ho,r⟩
  .refine(I.hok c u q).stay (fun d v hd z=>k2 d v ?_ z) (fun _ z=>z) fun _ _ z=>z;rcases hd with rfl|hd
   .exact nH d u q
   .exact nH d _ hd
 self:=fun _ _ _ _ _ st h=>wpAny_pyIter_zip st.1 h
abbrev itT (a:Addr):Obj:={ cls:=.type "tuple_iterator",data:=.fields #[.ref a,.int 0 0] }
abbrev Ai8 (u v:Value):Obj:={ cls:=.type "tuple",data:=.seq #[u,v] }
abbrev Bdz (TI TO:Addr):Obj:={ cls:=.type "zip",data:=.fields #[.none,.bool false,.bool false,.ref TI,.ref TO] }
def zT2 (h:Heap) (a b:Addr):Heap:=(h.push (itT a)).push (itT b)
def zT3 (h:Heap) (a b:Addr):Heap:=(zT2 h a b).push (Ai8 (.ref h.objs.size) (.ref (h.push (itT a)).objs.size))
def zT4 (h:Heap) (a b:Addr):Heap:=(zT3 h a b).push (Ai8 .none .none)
def zT5 (h:Heap) (a b:Addr):Heap:=(zT4 h a b).push (Bdz (zT2 h a b).objs.size (zT3 h a b).objs.size)
theorem Ahd (a b:Addr) (xs ys:Array Value) :
  Meets (Builtin.«zip.__new__» ⟨[.type "zip",.ref a,.ref b],[]⟩) (fun _ R s=>s.heap.IsTuple a xs/\s.heap.IsTuple b ys/\R (.ok (.ret (.ref (zT4 s.heap a b).objs.size))) { s with heap:=zT5 s.heap a b }):=
 .of_wp fun prog w A R s h=>by
  obtain⟨hp,g,d,tk,os⟩:=s;obtain⟨t1,t2,h⟩:=h;have e0:=sub_zip;have p1:IsTuple (Shared.heap ⟨hp,g,d,tk,os⟩) a xs:=t1;have p2:IsTuple (Shared.heap ⟨hp.push (itT a),g,d,tk,os⟩) b ys:=IsTuple.push t2 _
  wp_walk using wpAny_pyIter_tuple p1,wpAny_pyIter_tuple p2
  exact⟨_,rfl,h⟩
section
theorem Alj (h1:s.heap.IsTuple a xs) (h2:s.heap.IsTuple b ys)
  (go:∀h',IsZip h' (s.heap.objs.size+4) (s.heap.objs.size+2) (s.heap.objs.size+3) .none->IsPair h' (s.heap.objs.size+2) (.ref s.heap.objs.size) (.ref (s.heap.objs.size+1))->IsPair h' (s.heap.objs.size+3) .none .none->
   h'.IsTupleIter s.heap.objs.size a 0->h'.IsTupleIter (s.heap.objs.size+1) b 0->(∀c o,s.heap.get? c=some o->h'.get? c=some o)->Q (.ref (s.heap.objs.size+4)) { s with heap:=h' }) :
  wpAny (model prog w) A (call (.type "zip") [.ref a,.ref b]) Q E s:=by
 refine callType_new F.called_zip (by decide) (F.typeCall_zip_2 _ _) (F.newCall_zip_2 _ _) (fun obj=>F.args_object_init_3 obj _ _) F.entry_zip_new (Ahd a b xs ys) ⟨h1,h2,?_⟩
 have n1:(s.heap.push (itT a)).objs.size=s.heap.objs.size+1:=size_push ..
 have n2:(zT2 s.heap a b).objs.size=s.heap.objs.size+2:=by unfold zT2;rw[size_push,n1]
 have n3:(zT3 s.heap a b).objs.size=s.heap.objs.size+3:=by unfold zT3;rw[size_push,n2]
 have n4:(zT4 s.heap a b).objs.size=s.heap.objs.size+4:=by unfold zT4;rw[size_push,n3]
 have up2:∀c o,(zT2 s.heap a b).get? c=some o->(zT5 s.heap a b).get? c=some o:=fun c o q=>by unfold zT5 zT4 zT3;exact get?_push_of_some _ (get?_push_of_some _ (get?_push_of_some _ q))
 have g5:(zT5 s.heap a b).get? (zT4 s.heap a b).objs.size=some (Bdz (zT2 s.heap a b).objs.size (zT3 s.heap a b).objs.size):=by unfold zT5;exact get?_push_size _ rfl
 have g4:(zT5 s.heap a b).get? (zT3 s.heap a b).objs.size=some (Ai8 .none .none):=by unfold zT5 zT4;exact get?_push_of_some _ (get?_push_size _ rfl)
 have g3:(zT5 s.heap a b).get? (zT2 s.heap a b).objs.size=some (Ai8 (.ref s.heap.objs.size) (.ref (s.heap.push (itT a)).objs.size)):=by unfold zT5 zT4 zT3;exact get?_push_of_some _ (get?_push_of_some _ (get?_push_size _ rfl))
 have g2:(zT5 s.heap a b).get? (s.heap.push (itT a)).objs.size=some (itT b):=up2 _ _ (by unfold zT2;exact get?_push_size _ rfl)
 have g1:(zT5 s.heap a b).get? s.heap.objs.size=some (itT a):=up2 _ _ (by unfold zT2;exact get?_push_of_some _ (get?_push_size _ rfl))
 show _/\_;rw[n2,n3,n4] at g5;rw[n3] at g4;rw[n1,n2] at g3;rw[n1] at g2;rw[n4];exact⟨⟨_,g5,rfl⟩,go _ g5 g3 g4 ⟨_,g1,rfl,rfl⟩ ⟨_,g2,rfl,rfl⟩ fun c o q=>up2 _ _ (by unfold zT2;exact get?_push_of_some _ (get?_push_of_some _ q))⟩
theorem Alk (h1:Sc2 T a xs s.heap) (h2:Sc2 T b ys s.heap)
  (go:∀h',zSt T (s.heap.objs.size+4) (s.heap.objs.size+2) (s.heap.objs.size+3) s.heap.objs.size (s.heap.objs.size+1) a b 0 h'->(∀c o,s.heap.get? c=some o->h'.get? c=some o)->Q (.ref (s.heap.objs.size+4)) { s with heap:=h' }) :
  wpAny (model prog w) A (call (.type "zip") [.ref a,.ref b]) Q E s:=by
 cases T
 .exact call_zip_2 h1 h2 fun h' q1 q2 q3 q4 q5 _ k=>go h' ⟨q1,q2,⟨_,_,q3⟩,q4,q5⟩ k
 .exact Alj h1 h2 fun h' q1 q2 q3 q4 q5 k=>go h' ⟨q1,q2,⟨_,_,q3⟩,q4,q5⟩ k
end
theorem boot_zip:bootBuiltins "zip"=some (.type "zip"):=by decide +kernel
def Bgi (K:PySem.W.Frag) (ta:TA):TI:=fun σ H R=>ta σ H fun vs H1=>∃T a b xs ys,vs=[.ref a,.ref b]/\Sq2 K T H1 a xs/\Sq2 K T H1 b ys/\R (Itz K T a b) H1
theorem Az1 {kt:Nat} (hg:Gl X "zip") (hm:X.mg "zip"=none) (ha:PA X (e::es) ta) (hs:starEach (e::es) X.env=(false,eval e X.env)::starEach es X.env) (hpl:(backTo pos (starEach es X.env)).any (·.1)=false) :
  PI X (.Tuple elts kt tpos) (.Call (.Name "zip" p) (e::es) [] pos) (Bgi X.K ta):=by
 intro aa s σ H R I h;refine Call_ (Va I hg hm boot_zip (PyProof.Rows.callWith_type1 (thn (ha pos aa s σ H _ I h) fun us s1 ⟨vs,H1,I1,r1,q1⟩=>?_) hs hpl));obtain⟨T,a,b,xs,ys,rfl,qx,qy,q⟩:=q1;obtain⟨u,v,rfl,ru,rv⟩:=r1.two;obtain rfl:u=Value.ref a:=ru;obtain rfl:v=Value.ref b:=rv;obtain⟨its,rx,cx⟩:=I1.sq2 qx;obtain⟨jts,ry,cy⟩:=I1.sq2 qy;have there:∀{c:Addr} {us:Array Value},Sc2 T c us s1.heap->c < s1.heap.objs.size:=fun {c us} q=>by
  cases T
  .obtain⟨o,ho,_⟩:=q;exact lt_size ho
  .obtain⟨o,ho,_⟩:=q;exact lt_size ho
 have la:=there cx;have lb:=there cy;have hn:∀c∈[s1.heap.objs.size+4,s1.heap.objs.size+2,s1.heap.objs.size+3,s1.heap.objs.size,s1.heap.objs.size+1],s1.heap.objs.size<=c:=fun c hc=>by
  simp only[mem_cons,not_mem_nil,or_false] at hc;rcases hc with rfl|rfl|rfl|rfl|rfl
  .exact le_add_right _ _
  .exact le_add_right _ _
  .exact le_add_right _ _
  .exact le_refl _
  .exact le_add_right _ _
 refine Alk cx cy fun h' st k=>wpAny_pyIter_zip st.1 ?_;refine⟨_,[s1.heap.objs.size+4,s1.heap.objs.size+2,s1.heap.objs.size+3,s1.heap.objs.size,s1.heap.objs.size+1],_,_,H1,rfl,I1.kept (t':=s1.toks) k,Aow T _ _ _ _ _ a b ⟨by simp,fun m=>absurd (lt_of_lt_of_le la (hn a m)) (lt_irrefl _),fun m=>absurd (lt_of_lt_of_le lb (hn b m)) (lt_irrefl _)⟩,st,fun c hc=>I1.fpOk (hn c hc) (I1.hok.fresh (hn c hc)),q⟩
def leS (a b:Str):Bool:=!decide (b.cps.toList < a.cps.toList)
def Yg (ss:List Str):List Str:=ss.mergeSort leS
theorem Aa2 {α:Type} {r:α->α->Prop} (as:∀a b,r a b->r b a->a=b):∀{l1 l2:List α},l1.Perm l2->l1.Pairwise r->l2.Pairwise r->l1=l2
 |[],l2,p,_,_=>p.nil_eq
 |a::l1,[],p,_,_=>by have:=p.length_eq;simp at this
 |a::l1,b::l2,p,h1,h2=>by
  rw[pairwise_cons] at h1 h2;have e:a=b:=by
   rcases mem_cons.mp (p.mem_iff.mp mem_cons_self) with q|q
   .exact q
   .rcases mem_cons.mp (p.mem_iff.mpr mem_cons_self) with z|z
    .exact z.symm
    .exact as a b (h1.1 b z) (h2.1 a q)
  subst e;rw[Aa2 as (List.Perm.cons_inv p) h1.2 h2.2]
theorem Alm (a b:Str):(leS a b||leS b a)=true:=by
 unfold leS;rw[or_eq_true,not_eq_true',not_eq_true',decide_eq_false_iff_not,decide_eq_false_iff_not];rcases List.le_total a.cps.toList b.cps.toList with h|h
 .exact .inl (not_lt.mpr h)
 .exact .inr (not_lt.mpr h)
theorem Aa3 (a b c:Str) (h1:leS a b=true) (h2:leS b c=true):leS a c=true:=by
 unfold leS at *
 rw[not_eq_true',decide_eq_false_iff_not] at *
 exact not_lt.mpr (List.le_trans (not_lt.mp h1) (not_lt.mp h2))
theorem Aej (a b:Str) (h1:leS a b=true) (h2:leS b a=true):a=b:=by
 unfold leS at *
 rw[not_eq_true',decide_eq_false_iff_not] at *
 have e:=List.le_antisymm (not_lt.mp h1) (not_lt.mp h2);obtain⟨⟨x⟩⟩:=a;obtain⟨⟨y⟩⟩:=b;have e:x=y:=e;rw[e]
theorem Mt (ss:List Str):(Yg ss).Perm ss:=List.mergeSort_perm ss leS
theorem Wh (ss:List Str):(Yg ss).Pairwise (fun a b=>leS a b=true):=List.pairwise_mergeSort Aa3 Alm ss
theorem Yh:∀(p:Str) (l:List Str),risingS p l=true->(p::l).Pairwise (fun a b=>leS a b=true)
 |p,[],_=>by simp
 |p,x::r,h=>by
  have h:(!ltCps x.cps.toList p.cps.toList&&risingS x r)=true:=h;rw[and_eq_true,ltCps_eq] at h;have ih:=Yh x r h.2;rw[pairwise_cons];refine⟨fun y hy=>?_,ih⟩;rcases mem_cons.mp hy with rfl|hy
  .exact h.1
  .exact Aa3 p x y h.1 ((pairwise_cons.mp ih).1 y hy)
theorem At9 (p:ss'.Perm ss) (h:sortedS ss'=true):ss'=Yg ss:=by
 refine Aa2 Aej (p.trans (Mt ss).symm) ?_ (Wh ss);cases ss' with
 |nil=>exact .nil
 |cons x r=>exact Yh x r h
section
variable {tk:Nat}
theorem Inv.newO (I:Inv X aa σ H s) (hk:∀b ob,s.heap.get? b=some ob->h'.get? b=some ob) (hn:s.heap.get? e=none) (ho:Dn X.prog X.w (upd H e o) h' e o):Inv X aa σ (upd H e o) { s with heap:=h',toks:=tk }:=by
 have ne:∀{b:Addr} {o:Obj},s.heap.get? b=some o->b≠e:=fun q z=>by rw[z,hn] at q;cases q
 have nt:∀{b:Addr} {u:HO},H b=some u->b≠e:=fun q=>by
  obtain⟨o,ho⟩:=(I.hok _ _ q).there;exact ne ho
 refine I.step (s:=s) (g':=s.gens) (d':=s.drawn) (t':=tk) (h':=h') (ch:=[]) (fun _ z=>nomatch z) (fun b o _ _ _ q _=>hk b o q) (fun b o _ _ _ q _=>⟨o.slots,hk b o q⟩) (fun b o _ q n=>by rw[Ax (ne q)];exact n)
  (fun b o _ q=>⟨o,hk b o q⟩) (fun b xs q=>by rw[Ax (nt q)];exact q) (fun b o u q=>by rw[Ax (nt q)];exact q) (fun b ps q=>⟨#[],by rw[Ax (nt q),append_empty];exact q⟩) (fun m hm=>hm.keeps hk) (fun a u q=>?_) I.bare
 by_cases ha:a=e
 .subst ha;rw[Bm] at q;cases q;exact ho
 .rw[Ax ha] at q;exact(I.hok a u q).stay (fun b v _ z=>hk b v z) (fun b z=>by rw[Ax (nt z)];exact z) fun b xs z=>by rw[Ax (nt z)];exact z
theorem Aa4:∀{us:List Value} {ss:List Str},StrsAre us ss->Vals (ss.map V.str) us
 |_,_,.nil=>.nil
 |_,_,.cons x t h=>.cons ⟨t,rfl⟩ (Aa4 h)
end
section
theorem Ahe {ss:List Str} {vs:List (Key×Value)} (hk:vs.map (·.1)=ss.map Sum.inr) {us:List Value} (hl:us.length=vs.length) (h:∀(j:Nat) (v:Value),us[j]?=some v->∃k x,vs[j]?=some (k,x)/\Wd k v=true):StrsAre us ss:=by
 induction ss generalizing vs us with
 |nil=>
  cases vs with
  |nil=>cases us with
   |nil=>exact .nil
   |cons u us=>simp at hl
  |cons p vs=>simp at hk
 |cons s ss ih=>
  cases vs with
  |nil=>simp at hk
  |cons p vs=>
   cases us with
   |nil=>simp at hl
   |cons u us=>
    rw[map_cons,map_cons] at hk;obtain⟨h1,h2⟩:=List.cons.inj hk;obtain⟨k,x,e,q⟩:=h 0 u rfl;have e:p=(k,x):=by simpa using e
    subst e;have h1:k=Sum.inr s:=h1;subst h1;rcases Ef q with ⟨_,_,e1,_⟩|⟨y,tk,e1,rfl⟩
    .cases e1
    cases e1;exact .cons _ _ (ih h2 (by simpa using hl) fun j v z=>by simpa using h (j+1) v (by simpa using z))
theorem Aua:∀{kvs:List (Key×V)} {vs:List (Key×Value)},KV kvs vs->vs.map (·.1)=kvs.map (·.1):=fun {kvs vs} r=>by
 unfold KV at r;induction r with
 |nil=>rfl
 |cons h _ ih=>rw[map_cons,map_cons,ih,h.1]
theorem Ack (hc:X.calm=true):Hh X (.builtin "sorted") (fun xs H Q=>∃p kvs,xs=[.ref p]/\H p=some (.dK kvs)/\kvs.length < 64/\
  ∃ss:List Str,kvs.map (·.1)=ss.map Sum.inr/\∀q,H q=none->Q (.ref q) (upd H q (.lst ((Yg ss).map V.str)))):=by
 intro aa s σ H xs us Q I r h;obtain⟨p,kvs,rfl,hp,h64,q⟩:=h;obtain⟨u,rfl,ru⟩:=vals1 r;cases ru;obtain⟨_,lo,vs,rk,hd⟩:=(show Dn X.prog X.w H s.heap p (.dK kvs) from I.hok p _ hp);obtain⟨ep,hat⟩:=hd.dictAt;have ek:=Aua rk;have lk:vs.length=kvs.length:=by simpa using congrArg List.length ek
 refine Calls.call_function_entry kind_sorted plain_sorted entry_sorted (args_sorted1 _) ?_;unfold Builtin.«sorted»
 refine wpAny_bind (m:=checkCount "sorted" 1 1 _) (wpAny_pure (wpAny_bind (PySem.W.kdu_collect (A:=X.A.in1) (PySem.W.kdl_dict (knd:=Er X.prog X.w) (kvs:=vs) (ep:=ep) lo) (show X.A.in1.handled=none from I.ok.hd hc) hat (by rw[lk];exact le_trans (le_of_lt h64) (by decide)) fun h1 tk acc hk hacc=>?_)))
 have la:acc.toList.length=vs.length:=by rw[length_toList];exact hacc.1
 refine wpAny_bind (wpAny_newList ?_ (by rw[la,lk];exact le_trans (le_of_lt h64) (by decide)))
 have items:∀(j:Nat) (v:Value),acc.toList[j]?=some v->∃k x,vs[j]?=some (k,x)/\Wd k v=true:=fun j v z=>hacc.2 j v (by rw[<-getElem?_toList];exact z)
 generalize e2:h1.push (seqObj "list" acc.toList.toArray 0)=h2;have ho:h2.get? h1.objs.size=some (seqObj "list" acc.toList.toArray 0):=by rw[<-e2];exact get?_push_size _ rfl
 have z2:h2.objs.size=h1.objs.size+1:=by rw[<-e2];exact size_push' ..
 have k2:∀b ob,s.heap.get? b=some ob->h2.get? b=some ob:=fun b ob z=>by rw[<-e2];exact get?_push_of_some _ (hk b ob z)
 have hnew:s.heap.get? h1.objs.size=none:=by
  cases z:s.heap.get? h1.objs.size with
  |none=>rfl
  |some o=>exact absurd (lt_size (hk _ _ z)) (lt_irrefl _)
 have bc:H h1.objs.size=none:=by
  cases z:H h1.objs.size with
  |none=>rfl
  |some o=>
   obtain⟨ob,hob⟩:=(I.hok _ o z).there;rw[hnew] at hob;cases hob
 have old:∀(out:Array Value) b ob,s.heap.get? b=some ob->(sortedHeap h2 h1.objs.size acc.toList out).get? b=some ob:=fun out b ob z=>by
  rw[sortedHeap_old (fun w=>by rw[w,hnew] at z;cases z) (lt_size (k2 b ob z))]
  exact k2 b ob z
 obtain⟨ss,ks,q⟩:=q;have hS:StrsAre acc.toList ss:=Ahe (ek.trans ks) la items;refine wpAny_bind (wpAny_holding (wpAny_call_entry slot_list_sort ⟨_,ho,rfl⟩ entry_list_sort (list_sort_treeK strKind_oneLt ho hS.keysOf (fun v1 v2 rest e=>keyKind_strs (by rw[<-e];exact hS)) (by omega) fun st' a1 a2=>⟨_,rfl,?_⟩) (args_list_sort _)))
 obtain⟨ss',b1,b2,b3⟩:=sorted_out_str hS a1 a2;obtain rfl:=At9 b2 b3;obtain⟨ep',hat'⟩:=sortedHeap_at (out:=(arrOf st').map (·.2)) ho;refine wpAny_pure ⟨_,rfl,.ref h1.objs.size,_,I.newO (o:=.lst ((Yg ss).map V.str)) (tk:=tk) (old _) hnew ⟨?_,_,ep',Aa4 b1,hat'⟩,rfl,q _ ?_⟩
 .rw[length_map,(Mt ss).length_eq];have:ss.length=kvs.length:=by simpa using (congrArg List.length ks).symm
  exact le_trans (by omega:ss.length<=64) (by decide)
 .exact bc
end
section
variable {prog:Program} {w:World} {A:Around} {E:Value->Shared->Prop} {h:Heap} {g:Array GenState} {d:Drawn} {t:Nat} {os:OsState}
variable {nm q:Str} {C N fI:Addr} {bs tl bmB:List Value} {hdct:Bool} {sn:List Str} {sub:List Value} {ab:Bool} {col:Option Bool} {dd:Option Addr} {k0 k1 k2 k3 k5:Option Value} {B newId initId:String} {oI:Obj} {mN:Str->Option Value} {rest:List Value}
theorem Aub (F:ExcBaseFacts B newId initId bmB) (T:OwnTail h bmB tl) (hC:h.get? C=some (excClassObj nm q C N bs tl hdct sn sub ab col dd k0 k1 k2 k3 k5 newId))
  (hn:h.Ns N mN) (hi:mN "__init__"=some (.ref fI)) (hf:h.get? fI=some oI) (hfc:oI.cls=.type "function") (hl:rest.length<=sizeLine)
  (go:∀h' e,MadeExcOf h h' e (.ref C) rest->wpAny (model prog w) A (call (.ref fI) (.ref e::rest)) (fun r s'=>r=.none/\Q (.done (.ret (.ref e))) s') E ⟨h',g,d,t,os⟩) :
  wpAny (model prog w) A (Builtin.«type.__call__» ⟨.ref C::rest,[]⟩) Q E ⟨h,g,d,t,os⟩:=by
 repeat (first|(with_reducible refine wpAny_loadPart_at hC ?_)|(with_reducible refine wpAny_madeBy_exc hC ?_)|wp_step)
 refine codeAny_call_builtin_code (Code.quiet_builtin _ F.quiet) (wpAny_check_new_subT F T hC (codeAny_exc_new_subT F T hC ?_ hl));generalize e1:h.push { cls:=.type "tuple",data:=.seq rest.toArray }=h1;generalize e2:h1.push { cls:=.ref C,data:=.fields #[.ref h.objs.size,.none,.none,.none,.bool false,.none] }=h2;have z1:h1.objs.size=h.objs.size+1:=by rw[<-e1];exact size_push ..
 have keep:∀b o,h.get? b=some o->h2.get? b=some o:=fun b o z=>by rw[<-e2];exact get?_push_of_some _ (by rw[<-e1];exact get?_push_of_some _ z)
 have made:h2.get? (h.objs.size+1)=some { cls:=.ref C,data:=.fields #[.ref h.objs.size,.none,.none,.none,.bool false,.none] }:=by
  rw[<-e2,<-z1];exact get?_push_size _ rfl
 have hC2:=keep _ _ hC;show wpAny _ _ _ _ _ _;have own:(Value.ref C::tl).contains (.ref C)=true:=by simp
 unfold isInstance
 repeat (first|(with_reducible refine wpAny_loadPart_at made ?_)|(with_reducible refine wpAny_isSubtype_exc hC2 ?_;rw[own])|wp_step)
 show wpAny _ _ (typeLookup (.ref C) _) _ _ _;refine wpAny_typeLookup_tail hC2 (hn.keeps keep) (T.keeps keep) F.mroIs F.init.lookup ?_;rw[hi];refine wpAny_holding (wpAny_bind ?_);unfold bindSpecial;refine wpAny_bind (wpAny_typeOf (T:="function") ⟨_,keep _ _ hf,hfc⟩ ?_);rw[if_pos (by decide)]
 refine wpAny_pure (wpAny_bind (wpAny_mono (go h2 (h.objs.size+1) ⟨keep,get?_none_of_le (le_succ _),h.objs.size,made,get?_none_of_le (le_refl _),?_⟩) (fun r s' hr=>?_) fun _ _ z=>z))
 .rw[<-e2];exact get?_push_of_some _ (by rw[<-e1];exact get?_push_size _ rfl)
 .obtain⟨rfl,hq⟩:=hr
  wp_walk
  exact hq
theorem Auc (F:ExcBaseFacts B newId initId bmB) (T:OwnTail h bmB tl) (hC:h.get? C=some (excClassObj nm q C N bs tl hdct sn sub ab col dd k0 k1 k2 k3 k5 newId))
  (hn:h.Ns N mN) (hi:mN "__init__"=some (.ref fI)) (hf:h.get? fI=some oI) (hfc:oI.cls=.type "function") (hl:rest.length<=sizeLine)
  (go:∀h' e,MadeExcOf h h' e (.ref C) rest->wpAny (model prog w) (A.under (.builtin "type.__call__" ⟨.ref C::rest,[]⟩)) (call (.ref fI) (.ref e::rest)) (fun r s'=>r=.none/\Q (.ref e) s') E ⟨h',g,d,t,os⟩) :
  wpAny (model prog w) A (call (.ref C) rest) Q E ⟨h,g,d,t,os⟩:=by
 have l1:=tc_lookup;have l2:=tc_bind (.ref C);have ty:(⟨h,g,d,t,os⟩:Shared).TypeIs (.ref C) "type":=⟨_,hC,rfl⟩;refine wpAny_call (codeAny_of_tree (show wpAny _ _ (callAny (.ref C) _) _ _ _ from ?_))
 repeat (any_goals (first|assumption|(with_reducible refine wpAny_loadPart_at hC ?_)|wp_step))
 exact⟨rfl,codeAny_call_builtin_at (Code.quiet_builtin _ (by decide +kernel)) entry_typeCall (wpAny_check_type_call_sub hC (Aub F T hC hn hi hf hfc hl fun h' e hm=>go h' e hm))⟩
end
section
open PySem.W PySem.Builtin PySem.Builtin.ObjectAttr in
theorem Aa5 (self:Value):∀{own:List Value},(own.all fun a=>match a with|.ref _=>true|_=>false)=true->refuseLoop self "__setattr__" (own ++ Yc)=pure ()
 |[],_=>PySem.F.store_ValueError.passes self
 |.ref a::r,h=>by
  rw[cons_append,refuseLoop_ref];exact Aa5 self (by simpa using h)
open PySem.W PySem.Builtin PySem.Builtin.ObjectAttr in
theorem Az2 {prog:Program} {w:World} {A:Around} {E:Value->Shared->Prop} {s:Shared} {K:PySem.W.Frag} {x C:Addr} {o:Obj} {name:Str} {v:Value} {cd:ClassData} {own:List Value} (X:K.In s.heap) (hx:s.heap.get? x=some o) (hc:o.cls=.ref C) (hdn:o.dict=none) (hnc:∀c,o.data≠.cls c) (hcd:clsIn K C=some cd) (hm:cd.mro=own ++ Yc)
  (ho:(own.all fun a=>match a with|.ref _=>true|_=>false)=true) (hd:cd.hasDict=true) (hs:findIn K (.ref C) "__setattr__"=some (some (.builtin "object.__setattr__"))) (hn:findIn K (.ref C) name=some none) (hb:mroIn K C (.type "object")=some true)
  (h:∀d h' tk,s.heap.get? d=none->d≠x->h'.get? x=some { o with dict:=some d }->h'.Ns1 d (fun y=>if y=name then some v else none)->(∀b ob,b≠x->s.heap.get? b=some ob->h'.get? b=some ob)->Q () { s with heap:=h',toks:=tk }) :
  wpAny (model prog w) A (setAttr (.ref x) name v) Q E s:=by
 have I:InstAt s.heap x o C none:=⟨hx,hc,by unfold notCls;split <;> first|(rename_i z;exact absurd z (hnc _))|rfl,by rw[hdn];exact True.intro⟩
 refine set_plain X I hs ?_;obtain⟨hh,g,dr,tk0,os⟩:=s;dsimp only at X hx I h ⊢
 have SF:=PySem.F.store_ValueError;have sub:Looks (model prog w) hh (isInstance (.ref x) (.type "object")) true:=I.type.andThen (looks_mroIn X hb);refine codeAny_call_builtin SF.slot.plain SF.entry (@check_slot (model prog w) _ _ ⟨hh,g,dr,tk0+1,os⟩ "object.__setattr__" "object" "__setattr__" (.ref x) [.str name tk0,v] [] _ SF.kind SF.split sub (SF.args (.ref x) (.str name tk0) v) ?_);have lm:Looks (model prog w) hh (mroOf (.ref C)) cd.mro:=(looks_clsIn X hcd).andThen .now;rw[osa_eq,refuse_eq];refine wpAny_bind (wpAny_bind (I.type.here (wpAny_bind (lm.here ?_))));rw[hm,Aa5 _ ho];refine wpAny_pure (wpAny_bind (I.type.here (wpAny_bind ((looks_findIn X hn).here (wpAny_bind (wpAny_pure ?_))))));show wpAny _ _ (storeInOwnDict (.ref x) (.ref C) (.str name tk0) name v false) _ _ _;unfold storeInOwnDict
 repeat (first|(with_reducible refine wpAny_loadPart_at hx ?_;rw[hc])|wp_step)
 unfold clsIn at hcd;split at hcd
 .rename_i c0 dd cd0 sl0 hK;cases hcd;refine wpAny_load (X _ _ hK) (wpAny_pure ?_);have td:typeHasDict (Value.ref C)=true:=by simp[typeHasDict]
  simp only[hd,hdn,td,Bool.not_true,Bool.false_eq_true,if_false,Bool.or_false]
  .have hx1:(hh.push { cls:=.type "dict",data:=.dict #[] }).get? x=some o:=get?_push_of_some _ hx;have ne:x≠hh.objs.size:=ne_of_lt (lt_size hx);refine wpAny_bind (wpAny_alloc' ?_);refine wpAny_bind (wpAny_update' hx1 ?_);refine wpAny_pure ?_;generalize e2:((hh.push { cls:=.type "dict",data:=.dict #[] }).update x fun o=>{ cls:=o.cls,dict:=some hh.objs.size,data:=o.data,slots:=o.slots })=h2;have g2:h2.get? hh.objs.size=some { cls:=.type "dict",data:=.dict #[] }:=by
    rw[<-e2,Heap.get?_update_ne _ _ _ _ ne.symm];exact get?_push_size _ rfl
   have x2:h2.get? x=some { o with dict:=some hh.objs.size }:=by
    rw[<-e2];refine get?_update_self _ hx1 ?_;have fr:=(Heap.get?_some_iff.mp hx).2;obtain⟨oc,od,odt,osl⟩:=o;cases odt <;> first|rfl|exact fr
   have n2:h2.Ns hh.objs.size (fun _=>none):=⟨_,#[],_,g2,rfl,fun e he=>absurd he (by simp),fun _=>rfl⟩
   show wpAny _ _ (storeInDict hh.objs.size (.str name tk0) name v) _ _ _;unfold storeInDict newKeyGuard;refine wpAny_bind (wpAny_pure (wpAny_bind (wpAny_nsSet1 (Ns1.of_empty n2) fun h' hn' hs'=>?_)));obtain⟨oD,esD,epD,hoD,hdD,hcD⟩:=hn'.count (Within.cons name v Within.nil);refine wpAny_bind (wpAny_lookBehind hoD (by rw[hdD];exact pastItsLine_dict (le_trans hcD (by rw[length_cons,length_nil,sizeLine_eq];omega))) ?_)
   wp_walk
   refine h hh.objs.size h' _ (get?_none_of_le (le_refl _)) ne.symm ((hs'.2 x ne).trans x2) hn' fun b ob hb q=>?_;refine(hs'.2 b (ne_of_lt (lt_size q))).trans ?_;rw[<-e2,Heap.get?_update_ne _ _ _ _ hb];exact get?_push_of_some _ q
 .cases hcd
end
abbrev Yi (C:Addr) (od:Option Addr) (t:Addr):Obj:={ cls:=.ref C,dict:=od,data:=.fields #[.ref t,.none,.none,.none,.bool false,.none] }
section
variable {t:Nat}
theorem Aud {prog:Program} {w:World} {A:Around} {E:Value->Shared->Prop} {h:Heap} {g:Array GenState} {d:Drawn} {os:OsState} {nm q:Str} {C N e t0:Addr} {bs tl bmB:List Value} {hdct:Bool} {sn:List Str} {sub:List Value} {ab:Bool} {col:Option Bool} {dd od:Option Addr} {k0 k1 k2 k3 k5:Option Value} {B newId initId:String} {rest:List Value} (F:ExcBaseFacts B newId initId bmB) (T:OwnTail h bmB tl) (hC:h.get? C=some (excClassObj nm q C N bs tl hdct sn sub ab col dd k0 k1 k2 k3 k5 newId)) (he:h.get? e=some (Yi C od t0)) (hl:rest.length<=sizeLine)
  (go:∀h' t',h'.get? e=some (Yi C od t')->(∀b ob,b≠e->h.get? b=some ob->h'.get? b=some ob)->Q .none ⟨h',g,d,t,os⟩) :
  wpAny (model prog w) A (call (.builtin initId) (.ref e::rest)) Q E ⟨h,g,d,t,os⟩:=by
 refine wpAny_call (codeAny_call_builtin F.init.plain F.initEntry (wpAny_check_init_subT F T hC he rfl ?_));have ne:e≠h.objs.size:=ne_of_lt (lt_size he)
 wp_walk
 refine go _ h.objs.size ?_ fun b ob hb q=>?_
 .rw[get?_update_self _ (get?_push_of_some _ he) rfl];rfl
 .rw[get?_update_other _ _ hb.symm];exact get?_push_of_some _ q
end
def Acl (K:PySem.W.Frag) (C fI:Addr):Bool:=match K.lookup C with
 |some ⟨.type "type",_,.cls cd,sl⟩=>(match cd.mro,sl.toList with
  |.ref C'::tl,[_,_,_,_,some (.builtin n),_]=>(C'==C&&n=="ValueError.__new__"&&!cd.hasDel)&&(PySem.W.tailIn K Yc tl&&PySem.W.nsOkIn K cd.ns)&&nsIn K cd.ns "__init__"==some (some (.ref fI))
  |_,_=>false)
 |_=>false
theorem Ahf {K:PySem.W.Frag} {h:Heap} {N:Addr} {m:Str->Option Value} {n:Str} {v:Value} (X:K.In h) (G:h.Ns N m) (e:nsIn K N n=some (some v)):m n=some v:=by
 obtain⟨o,es,ep,ho,hd,_,hf⟩:=G;unfold nsIn at e;split at e
 .rename_i q;have z:=X _ _ q;rw[ho] at z;cases z;cases hd;split at e
  .rename_i en he;cases e;rw[<-hf];unfold nsFind findBy;rw[<-Array.find?_toList,he];rfl
  .split at e <;> cases e
 .cases e
theorem Aox {K:PySem.W.Frag} {h:Heap} {C fI:Addr} (X:K.In h) (q:Acl K C fI=true) :
  ∃tl N nm qn bs hdct sn sub ab col dd k0 k1 k2 k3 k5 mN,h.get? C=some (excClassObj nm qn C N bs tl hdct sn sub ab col dd k0 k1 k2 k3 k5 "ValueError.__new__")/\h.Ns N mN/\mN "__init__"=some (.ref fI)/\OwnTail h Yc tl:=by
 unfold Acl at q;split at q
 .rename_i dd cd sl ho;split at q
  .rename_i C' tl k0 k1 k2 k3 n k5 hm hs;simp only[and_eq_true,beq_iff_eq,not_eq_true'] at q;obtain⟨⟨⟨⟨rfl,rfl⟩,hdel⟩,ht,hok⟩,hni⟩:=q;obtain⟨nm,bs,mro,ns,qn,hd,sn,sub,ab,col,del⟩:=cd;dsimp only at hm hdel hok hni;subst hm hdel;obtain⟨l⟩:=sl;dsimp only at hs;subst hs;have nsq:h.Ns ns (h.nsMap ns):=.of_isNs (isNs_of_in X hok);exact⟨tl,ns,nm,qn,bs,hd,sn,sub,ab,col,dd,k0,k1,k2,k3,k5,_,X _ _ ho,nsq,Ahf X nsq hni,tail_of_in X ht⟩
  .cases q
 .cases q
structure XsK (K:PySem.W.Frag) (C:Addr) (f:Str):Prop where
 cls:∃cd own,PySem.W.clsIn K C=some cd/\cd.mro=own ++ Yc/\(own.all fun a=>match a with|.ref _=>true|_=>false)=true/\cd.hasDict=true
 sa:PySem.W.findIn K (.ref C) "__setattr__"=some (some (.builtin "object.__setattr__"))
 no:PySem.W.findIn K (.ref C) f=some none
 ob:PySem.W.mroIn K C (.type "object")=some true
structure XbK (K:PySem.W.Frag) (B:Addr):Prop where
 g:specialIn K (.ref B) "__getattribute__"=some (some (.builtin "type.__getattribute__"))
 r:readsIn K B (.type "type")=true
 f:findCls K (.ref B) (.type "type") "__init__"=some (.val (.builtin "ValueError.__init__"))
def Lb (e C:Addr) (od:Option Addr):HO:=.ext fun h=>∃t,h.get? e=some (Yi C od t)
theorem Acm (q:h.get? e=some (Yi C od t)):Dn P w H h e (Lb e C od):=
 ⟨⟨t,q⟩,⟨_,q⟩,fun _ _ ⟨t',p⟩ k=>⟨t',k _ p⟩⟩
theorem Aln (bf:attributeBase o name env (eval o env)=eval o env) (few:methodCallForm args.length (backTo pos (starEach args env)) (backToKw pos (keywordEach [] env))=true) (aq:(ak.endLine==pos.line)=true) :
  eval (.Call (.Attribute o name ak) args [] pos) env=(do
   let ov<-eval o env
   standAt ak.atName
   let (f,first)<-holding [ov] (getMethod ov name (do return (<-importBound o env).getD true))
   callWith pos f first (backTo pos (starEach args env)) (backToKw pos (keywordEach [] env))):=by
 have e:eval (.Call (.Attribute o name ak) args [] pos) env=(do
   let ov<-attributeBase o name env (eval o env)
   standAt ak.atName
   methodCall o name ak pos env ov args.length (backTo pos (starEach args env)) (backToKw pos (keywordEach [] env))):=rfl
 rw[e,bf];unfold methodCall calleeOf methodCallPos;rw[few,aq];rfl
def Az3 (K:PySem.W.Frag) (ta:TA):TE:=fun σ H Q=>ta σ H fun vs H1=>∃e C fI od rest,vs=.ref e::rest/\H1 e=some (Lb e C od)/\Acl K C fI=true/\rest.length<=sizeLine/\Q .non H1
def Bd0 (K:PySem.W.Frag) (ta tv:TE) (f:Str):TS:=fun D σ H=>tv σ H fun y H1=>ta σ H1 fun x H2=>∃e C,x=.ref e/\H2 e=some (Lb e C none)/\XsK K C f/\∀d,H2 d=none->D.nx σ (upd (upd H2 e (Lb e C (some d))) d (.xd [(f,y)]))
section
theorem Aoy (hg:Gl X x) (hm:X.mg x=some (.ref B)) (b:XbK X.K B) (ha:PA X (e₀::es) ts) (hd:(x==("__debug__":Str))=false)
  (hst:starEach (e₀::es) X.env=(false,eval e₀ X.env)::starEach es X.env) (hpl:(backTo pos (starEach es X.env)).any (·.1)=false)
  (few:methodCallForm (e₀::es).length (backTo pos (starEach (e₀::es) X.env)) (backToKw pos (keywordEach [] X.env))=true) (aq:(ak.endLine==pos.line)=true) :
  PE X (.Call (.Attribute (.Name x np) "__init__" ak) (e₀::es) [] pos) (Az3 X.K ts):=by
 intro aa s σ H Q I h;refine PySem.W.methodCall_KW (Lh I hg hm ?_ hd) (Aln rfl few aq);refine PySem.W.method_cls I.kIn b.g (PySem.W.cls_value I.kIn b.r b.f rfl ?_);have I0:=I.tok (s.toks+1);have hA:=ha pos aa _ σ H _ I0 h;rw[hst] at hA ⊢
 refine Calls.callWith_builtin (by show (false||(backTo pos (starEach es X.env)).any (·.1))=false;rw[hpl] <;> rfl) (Calls.evalArgs_plain ?_)
 refine thn hA fun us s2 ⟨vs,H2,I2,r2,e,C,fI,od,rest,ev,he,hx,hl,q⟩=>?_;subst ev;cases r2 with
 |@cons _ u _ ur ru rr=>
  obtain rfl:u=Value.ref e:=ru;obtain⟨⟨t,q1⟩,_,_⟩:=(show Dn X.prog X.w H2 s2.heap e (Lb e C od) from I2.hok e _ he);obtain⟨hh,g,dr,tk,os⟩:=s2;obtain⟨tl,N,nm,qn,bs,hdct,sn,sub,ab,col,dd,k0,k1,k2,k3,k5,mN,hC,hN,hni,T⟩:=Aox I2.kIn hx;refine Aud PySem.F.excBase_ValueError T hC q1 (by rw[<-rr.length];exact hl) fun h' t' q2 k=>?_
  have I3:Inv X aa σ (upd H2 e (Lb e C od)) ⟨h',g,dr,tk,os⟩:=I2.write (x:=e) (e:=e) (t':=tk) (by rw[he];exact True.intro) (.inl rfl) k ⟨_,q2⟩ (Acm q2)
  have eH:upd H2 e (Lb e C od)=H2:=funext fun b=>by
   by_cases hb:b=e
   .subst hb;rw[Bm,he]
   .rw[Ax hb]
  rw[eH] at I3;exact⟨.non,H2,I3,rfl,q⟩
theorem Aue (ho:PE X o ta) (hv:PE X value tv) (hs:swapsWith value (some (.Attribute o f pos')) pos.line X.env=pure false):PS X (.Assign [.Attribute o f pos'] value pos) (Bd0 X.K ta tv f):=by
 intro aa s σ H D I h;refine plainObj_wpAny_Assign_Attribute (thn (hv aa s σ H _ I h) fun u s1 ⟨y,H1,I1,ry,q⟩=>thn (ho aa s1 σ H1 _ I1 q) fun ov s2 ⟨x,H2,I2,rx,e,C,ex,he,k,q2⟩=>?_) hs;subst ex;obtain rfl:ov=Value.ref e:=rx;obtain⟨⟨t,q1⟩,_,_⟩:=(show Dn X.prog X.w H2 s2.heap e (Lb e C none) from I2.hok e _ he);obtain⟨cd,own,c1,c2,c3,c4⟩:=k.cls;refine Az2 I2.kIn q1 rfl rfl (fun c z=>by cases z) c1 c2 c3 c4 k.sa k.no k.ob fun d h' tk hd ne q3 hns kp=>?_
 have dn:H2 d=none:=by
  cases z:H2 d with
  |none=>rfl
  |some o=>
   obtain⟨ob,hob⟩:=(I2.hok d o z).there;rw[hd] at hob;cases hob
 have en:∀b,H2 b=none->b≠e:=fun b z w=>by rw[w,he] at z;cases z
 have bd:∀b o,s2.heap.get? b=some o->b≠d:=fun b o z w=>by rw[w,hd] at z;cases z
 have th:∀b o,H2 b=some o->b≠d:=fun b o z w=>by rw[w,dn] at z;cases z
 have up2:∀b o,H2 b=some o->b≠e->upd (upd H2 e (Lb e C (some d))) d (.xd [(f,y)]) b=some o:=fun b o z w=>by rw[Ax (th b o z),Ax w,z]
 have I3:Inv X aa σ (upd (upd H2 e (Lb e C (some d))) d (.xd [(f,y)])) { s2 with heap:=h',toks:=tk }:=by
  refine I2.un ⟨fun b o q n _ _=>kp b o (en b n) q,fun b o q n _ _=>⟨o.slots,kp b o (en b n) q⟩,fun b o q n _=>by rw[Ax (bd b o q),Ax (en b n)];exact n,fun b o q _=>?_,fun b xs q=>up2 b _ q fun w=>by (rw[w,he] at q;cases q),fun b o v q=>up2 b _ q fun w=>by (rw[w,he] at q;cases q),fun b ps q=>⟨#[],by (rw[append_empty];exact up2 b _ q fun w=>by rw[w,he] at q;cases q)⟩⟩ fun b o q=>?_
  .by_cases hb:b=e
   .exact⟨_,by rw[hb];exact q3⟩
   .exact⟨o,kp b o hb q⟩
  .by_cases hb:b=d
   .subst hb;rw[Bm] at q;cases q;refine⟨_,hns,fun g=>?_⟩;rw[lookup_cons];by_cases hg:g=f
    .subst hg;rw[beq_self_eq_true,if_pos rfl];exact ry
    .rw[if_neg hg,beq_eq_false_iff_ne.mpr hg];exact True.intro
   .rw[Ax hb] at q;by_cases hb':b=e
    .subst hb';rw[Bm] at q;cases q;exact Acm (t:=t) q3
    .rw[Ax hb'] at q;refine(I2.hok b o q).stay (fun c v hc z=>kp c v (fun w=>?_) z) (fun c z=>up2 c _ z fun w=>by rw[w,he] at z;cases z) fun c xs z=>up2 c _ z fun w=>by rw[w,he] at z;cases z
     rcases hc with rfl|hc
     .exact hb' w
     .rw[w,he] at hc;cases hc
 exact⟨σ,_,I3,q2 d dn⟩
end
def Alo (C:Addr) (f:Str):Sp:=fun vs H Q _=>∃e n u,vs=[.ref e,n,u]/\H e=some (Lb e C none)/\∀d,H d=none->Q .non (upd (upd H e (Lb e C (some d))) d (.xd [(f,n)]))
section
theorem Bd1 {P:Program} {w:World} {K:PySem.W.Frag} {mg:Str->Option Value} {base:Heap} {cm:Bool} {x aj B fld a b c:Str} {st:Stmt} {f C Ba fI:Addr} {fd:FuncData} {k:Nat} {np ap p1 p2 cp xp p3 p4 p5 sp':Pos} (F:Fun K x aj st f fd) (Sc:Fj [a,b,c] [a,b,c] (Ak st))
  (hb:Aq st=[.Expr (.Call (.Attribute (.Name B np) "__init__" ap) [.Name a p1,.Name c p2] [] cp) xp,.Assign [.Attribute (.Name a p3) fld p4] (.Name b p5) sp'])
  (hm:mg B=some (.ref Ba)) (xb:XbK K Ba) (xs:XsK K C fld) (xi:Acl K C fI=true) (hg:(Ak st).names.lookup B=some .globalImplicit)
  (va:Ahb (Ak st) a=true) (vb:Ahb (Ak st) b=true) (vc:Ahb (Ak st) c=true)
  (dB:(B==("__debug__":Str))=false) (dd:([a,b,c].all fun y=>!(y==("__debug__":Str))&&!(y==("__classdict__":Str)))=true) (hl:(ap.endLine==cp.line)=true):Gw P w K mg base (CXo P w) (k+1) f fd [a,b,c] (Alo C fld) cm:=by
 simp only[all_cons,List.all_nil,Bool.and_true,and_eq_true,not_eq_true'] at dd;obtain⟨⟨a1,a2⟩,⟨b1,b2⟩,c1,c2⟩:=dd;refine Fun.okX F Sc (fun vs H Q E h=>?_) fun cdv A outer s H vs Q E rm h=>?_
 .obtain⟨e,n,u,rfl,_⟩:=h;rfl
 .obtain⟨e,n,u,rfl,he,q⟩:=h;rw[hb];refine⟨_,Ad9 (Aiv (Aoy (x:=B) (B:=Ba) hg hm xb (Xg (Xw (i:=0) rfl (Ye va) a1 a2) (Xg (Xw (i:=2) rfl (Ye vc) c1 c2) Agy rfl) rfl) dB rfl rfl rfl hl) rfl)
   (Asr (Aue (Xw (i:=0) rfl (Ye va) a1 a2) (Xw (i:=1) rfl (Ye vb) b1 b2) rfl)),?_⟩
  refine⟨_,rfl,_,rfl,e,C,fI,none,[u],rfl,he,xi,(by show 1<=sizeLine;decide),?_⟩
  refine⟨_,rfl,_,rfl,e,C,rfl,he,xs,fun d dn=>q d dn⟩
end
section
theorem Inv.madeX (I:Inv X aa σ H s) (hx:MadeExcOf s.heap h' e (.ref C) args):Inv X aa σ (upd H e (Lb e C none)) { s with heap:=h' }:=by
 have ne:∀{b:Addr} {o:Obj},s.heap.get? b=some o->b≠e:=fun q z=>by rw[z,hx.new] at q;cases q
 have nt:∀{b:Addr} {u:HO},H b=some u->b≠e:=fun q=>by
  obtain⟨o,ho⟩:=(I.hok _ _ q).there;exact ne ho
 obtain⟨t,he,_,_⟩:=hx.there;refine I.step (s:=s) (g':=s.gens) (d':=s.drawn) (t':=s.toks) (h':=h') (ch:=[]) (fun _ z=>nomatch z) (fun b o _ _ _ q _=>hx.keeps b o q) (fun b o _ _ _ q _=>⟨o.slots,hx.keeps b o q⟩) (fun b o _ q n=>by rw[Ax (ne q)];exact n)
  (fun b o _ q=>⟨o,hx.keeps b o q⟩) (fun b xs q=>by rw[Ax (nt q)];exact q) (fun b o u q=>by rw[Ax (nt q)];exact q) (fun b ps q=>⟨#[],by rw[Ax (nt q),append_empty];exact q⟩) (fun m hm=>hm.keeps hx.keeps) (fun a u q=>?_) I.bare
 by_cases ha:a=e
 .subst ha;rw[Bm] at q;cases q;exact Acm he
 .rw[Ax ha] at q;exact(I.hok a u q).stay (fun b v _ z=>hx.keeps b v z) (fun b z=>by rw[Ax (nt z)];exact z) fun b xs z=>by rw[Ax (nt z)];exact z
end
section
theorem Aoz (hb:tl.contains (.type "BaseException")=true) (hh:A.handled=none)
  (h:wpAny M A x (fun v s1=>∃e od t,v=.ref e/\s1.heap.get? C=some (excClassObj nm q C N bs tl hdct sn sub ab col dd k0 k1 k2 k3 k5 newId)/\s1.heap.get? e=some (Yi C od t)/\E (.ref e) s1) E s) :
  wpAny M A (raiseStmt env (some x) none) Q E s:=by
 have has:(Value.ref C::tl).contains (.type "BaseException")=true:=by rw[List.contains_cons,hb,Bool.or_true]
 unfold raiseStmt;refine wpAny_bind (wpAny_mono h (fun v s1 z=>?_) fun _ _ z=>z);obtain⟨e,od,t,rfl,hC,he,hE⟩:=z;obtain⟨hp,g,d,tk,os⟩:=s1
 repeat (first|(with_reducible refine wpAny_loadPart_at he ?_)|(with_reducible refine wpAny_loadPart_at hC ?_)|(with_reducible refine wpAny_isSubtype_exc hC ?_;rw[has])|wp_step)
 exact wpAny_raiseNew_none hh hE
end
def Xh (X:Cx) (E:XK):Prop:=∀(aa:List (Addr×Obj)) (σ:St) (H:Hp) (s:Shared) (e C:Addr) (od:Option Addr),Inv X aa σ H s->X.s₀.heap.get? e=none->H e=some (Lb e C od)->(∀H',(∀b,b≠e->H' b=H b)->H' e=none->E (.ref C) (some (1,od)) H')->X.xe (.ref e) s
def Auf (ta:TA) (C:Addr) (f:Str) (dvs:List V) (E:XK):TS:=fun _ σ H=>ta σ H fun vs H1=>vs.length<=sizeLine/\∃n u,vs ++ dvs=[n,u]/\∀d,H1 d=none->E (.ref C) (some (1,some d)) (upd H1 d (.xd [(f,n)]))
theorem Alp {k:Nat} (hx:Acl X.K C fI=true) (hk:keepIn X.K (.ref C)=true) (hft:typeIn X.K (.ref fI)=some (.type "function"))
  (hex:X.ex=[]) (hg:Gl X x) (hm:X.mg x=some (.ref C)) (hc:X.calm=true) (hR:Xh X E) (F:Gw X.prog X.w X.K X.mg X.base (CXo X.prog X.w) k fI fd ps (Alo C f) true) (hr:Hc (k+1) X.A true) (hb:Binds X.K fd ps ds) (hd:Vals dvs ds) (ha:PA X (e₀::es) ta)
  (hdb:(x==("__debug__":Str))=false) (he:starEach (e₀::es) X.env=(false,eval e₀ X.env)::starEach es X.env) (hpl:(backTo cpos (starEach es X.env)).any (·.1)=false) :
  PS X (.Raise (some (.Call (.Name x np) (e₀::es) [] cpos)) none pos) (Auf ta C f dvs E):=by
 intro aa s σ H D I h;obtain⟨tl,N,nm,qn,bs,hdct,sn,sub,ab,col,dd,k0,k1,k2,k3,k5,mN,hC,hN,hni,T⟩:=Aox I.ok.mod.kin hx;rw[arm_exec_Raise];refine wpAny_bind (wpAny_standAt (Aoz (C:=C) (nm:=nm) (q:=qn) (N:=N) (bs:=bs) (tl:=tl) (hdct:=hdct) (sn:=sn) (sub:=sub) (ab:=ab) (col:=col) (dd:=dd) (k0:=k0) (k1:=k1) (k2:=k2) (k3:=k3) (k5:=k5) (newId:="ValueError.__new__") (T.hasType PySem.F.excBase_ValueError.hasBase) (I.ok.hd hc) ?_));refine wpAny_bind (wpAny_Call_Name_kw (Lh I hg hm ?_ hdb));refine callWith_K (h₀:=X.base) I.ok.mod.kin hk (thn (ha cpos aa s σ H _ I h) fun us s1 ⟨vs,H1,I1,r,hz,n,u,hnu,q⟩=>⟨I1.kIn,?_⟩) he hpl;obtain⟨oI,lI,cI⟩:∃oI,X.K.lookup fI=some oI/\oI.cls=.type "function":=by
  have hft:Option.map (fun o:Obj=>o.cls) (X.K.lookup fI)=some (.type "function"):=hft;cases z:X.K.lookup fI with
  |none=>rw[z] at hft;cases hft
  |some o=>rw[z] at hft;exact⟨o,rfl,Option.some.inj hft⟩
 obtain⟨hh,g,dr,tk,os⟩:=s1;refine Auc PySem.F.excBase_ValueError (T.keeps I1.bk) (I1.bk _ _ hC) (hN.keeps I1.bk) hni (I1.kIn _ _ lI) cI (by simp only[nil_append];rw[<-r.length];exact hz) fun h' e hmade=>?_
 have I2:=I1.madeX hmade;have r2:Vals (V.ref e::(vs ++ dvs)) (Value.ref e::(us ++ ds)):=.cons rfl (r.append hd);have hsp:Alo C f (V.ref e::(vs ++ dvs)) (upd H1 e (Lb e C none)) (fun v H2=>v=.non/\∃d,upd H1 e (Lb e C none) d=none/\H2=upd (upd (upd H1 e (Lb e C none)) e (Lb e C (some d))) d (.xd [(f,n)])) (fun _ _ _=>False):=⟨e,n,u,by rw[hnu],Bm,fun d dn=>⟨rfl,d,dn,rfl⟩⟩
 have hlen:(Value.ref e::us ++ ds).length=ps.length:=by
  have z:=r2.length;rw[F.len _ _ _ _ hsp] at z;exact z.symm
 refine wpAny_call (codeAny_mono (F.run _ X.stack _ _ ⟨Value.ref e::us,[]⟩ (Value.ref e::(us ++ ds)) _ _ _ (hr.make C us []) (I2.env0.make C us []) (hb _ (Value.ref e::us) I2.kIn hlen) r2 hsp) fun rr s' hq=>?_)
 match rr,hq with
 |.error e',hq=>obtain⟨_,_,_,_,_,_,_,z⟩:=hq;exact z.elim
 |.ok (.ret v),hq=>
  obtain⟨v',H',I3,rv,ev,d,dn,eH⟩:=I2.after hq;subst ev;refine⟨rv,wpAny_bind (wpAny_standAt (wpAny_pure ?_))⟩;have de:d≠e:=fun z=>by rw[z,Bm] at dn;cases dn
  rw[Ax de] at dn;have he3:H' e=some (Lb e C (some d)):=by rw[eH,Ax de.symm,Bm]
  obtain⟨⟨t,q1⟩,_,_⟩:=(show Dn X.prog X.w H' s'.heap e (Lb e C (some d)) from I3.hok e _ he3);have h1e:H1 e=none:=by
   cases z:H1 e with
   |none=>rfl
   |some o=>
    obtain⟨ob,hob⟩:=(I1.hok e o z).there;rw[hmade.new] at hob;cases hob
  refine⟨e,some d,t,rfl,I3.bk _ _ hC,q1,hR aa σ H' s' e C (some d) I3 ?_ he3 fun H'' hk' hn=>?_⟩
  .cases z:X.s₀.heap.get? e with
   |none=>rfl
   |some o=>
    obtain⟨o',z1⟩:=I1.base.there e o z (by rw[hex];simp)
    rw[hmade.new] at z1;cases z1
  .have eq:H''=upd H1 d (.xd [(f,n)]):=funext fun b=>by
    by_cases hb':b=e
    .rw[hb',hn,Ax de.symm,h1e]
    .rw[hk' b hb',eH];by_cases hd':b=d
     .rw[hd',Bm,Bm]
     .rw[Ax hd',Ax hb',Ax hb',Ax hd']
   rw[eq];exact q d dn
section
def Aek (H:Hp) (e:Addr):Hp:=fun b=>if b=e then none else H b
theorem Jw (h:b≠e):Aek H e b=H b:=if_neg h
theorem Sw:Aek H e e=none:=if_pos rfl
theorem Yj (h:Aek H e b=some u):b≠e/\H b=some u:=by
 by_cases hb:b=e
 .rw[hb,Sw] at h;cases h
 .rw[Jw hb] at h;exact⟨hb,h⟩
theorem Inv.fly_held (I:Inv X aa σ H s) (bh:X.stack=X.env::X.outer) (hfr:X.env.frame=some X.env.locals) (hex:X.ex=[]) (h0:X.s₀.heap.get? e=none) (he:H e=some (Lb e C od))
  (k:∀h'':Heap,Fly X.prog X.w X.outer X.H₀ X.s₀ (Aek H e) e (.ref C) { s with heap:=h'' }->O2 0 h'' e od->Q () { s with heap:=h'' }):wpAny M X.A (leaving X.env (.ref e)) Q E s:=by
 obtain⟨⟨t,ho⟩,_,_⟩:=(show Dn X.prog X.w H s.heap e (Lb e C od) from I.hok e _ he);have hin:∀env∈X.stack,∀a,env.frame=some a->a∈e::frs X.stack:=fun env z a ha=>mem_cons_of_mem _ (mem_filterMap.mpr ⟨env,z,ha⟩);have ff:s.heap.FunFrames (hideAll s.heap (e::frs X.stack)) (X.env::X.outer):=by rw[<-bh];exact PySem.W.funFrames_hide I.stack hin
 have noex:∀b,b∉X.ex:=fun b z=>by rw[hex] at z;exact absurd z (by simp)
 have estk:e∉frs X.stack:=fun z=>by
  have n:=I.stkFree e z;rw[he] at n;cases n
 have hid:(hideAll s.heap (e::frs X.stack)).get? e=none:=hideAll_none _ mem_cons_self;refine Ai3 (n:=0) (B:=hideAll s.heap (e::frs X.stack)) (a0:=.ref t) (by rw[I.ok.frames,bh]) ff hfr ho (fun b o z=>of_hideAll _ z) hid rfl rfl rfl (fun _=>rfl) fun h'' hL cx=>k h'' ?_ cx
 obtain⟨x1,⟨_,_,x2⟩,x3,x4⟩:=hL;have keepB:∀b o,s.heap.get? b=some o->b∉frs X.stack->b≠e->h''.get? b=some o:=fun b o q n z=>x1 b o (hideAll_get _ q (by simp[n,z]))
 have frm:∀b o,s.heap.get? b=some o->b∈frs X.stack->∃sl,h''.get? b=some { o with slots:=sl }:=fun b o q hb=>by
  obtain⟨_,o',q',nf⟩:=I.stack.mem hb;rw[q] at q';cases q';exact x4 b o q nf
 have ne0:∀{b:Addr} {o:Obj},X.s₀.heap.get? b=some o->b≠e:=fun q z=>by rw[z,h0] at q;cases q
 refine⟨I.os,I.bare,⟨fun b o q n hb _=>?_,fun b o q n hb _=>?_,fun b o q n _=>?_,fun b o q _=>?_,fun b xs q=>?_,fun b o u q=>?_,fun b ps q=>?_⟩,fun a u q=>?_,h0,Sw,?_⟩
 .exact keepB b o (I.base.keep b o q n hb (noex b)) (I.notStk q hb) (ne0 q)
 .obtain⟨sl,q1⟩:=I.base.slot b o q n hb (noex b);obtain⟨sl',q2⟩:=frm b _ q1 (I.fsStk bh b hb);exact⟨sl',q2⟩
 .rw[Jw (ne0 q)];exact I.base.free b o q n (noex b)
 .obtain⟨o',q1⟩:=I.base.there b o q (noex b);by_cases hb:b∈frs X.stack
  .obtain⟨sl,q2⟩:=frm b o' q1 hb;exact⟨_,q2⟩
  .exact⟨o',keepB b o' q1 hb (ne0 q)⟩
 .have z:=I.base.tups b xs q;rw[Jw (fun w=>by rw[w,he] at z;cases z)];exact z
 .have z:=I.base.frzs b o u q;rw[Jw (fun w=>by rw[w,he] at z;cases z)];exact z
 .obtain⟨m,z⟩:=I.base.tbls b ps q;exact⟨m,by rw[Jw (fun w=>by rw[w,he] at z;cases z)];exact z⟩
 .obtain⟨ha,q⟩:=Yj q;refine(I.hok a u q).stay (fun b v hb z=>keepB b v z (fun m=>?_) ?_) (fun b z=>?_) fun b xs z=>?_
  .have n:=I.stkFree b m;rcases hb with rfl|hb
   .rw[n] at q;cases q
   .rw[n] at hb;cases hb
  .rcases hb with rfl|hb
   .exact ha
   .rintro rfl;rw[he] at hb;cases hb
  .rw[Jw (fun w=>by rw[w,he] at z;cases z)];exact z
  .rw[Jw (fun w=>by rw[w,he] at z;cases z)];exact z
 .refine⟨_,_,⟨x1,hid,x2,x3⟩,fun b o q n hb=>hideAll_get _ (I.base.keep b o q n hb (noex b)) (by simp[I.notStk q hb,ne0 q]),fun b o q hb=>?_,fun a u o q z=>?_⟩
  .obtain⟨o',q1⟩:=I.base.there b o q (noex b);exact⟨o',hideAll_get _ q1 (by simp[I.notStk q hb,ne0 q])⟩
  .obtain⟨ha,q⟩:=Yj q;obtain⟨ob,q1⟩:=(I.hok a u q).there;have q2:=hideAll_get (e::frs X.stack) q1 (by
    have n:a∉frs X.stack:=fun m=>by
     have n:=I.stkFree a m;rw[n] at q;cases q
    simp[n,ha])
   have q3:=x1 a ob q2;have z:h''.get? a=some o:=z;rw[q3] at z;cases z;exact q2
end
section
theorem Ahg {P:Program} {w:World} {K:PySem.W.Frag} {mg:Str->Option Value} {base:Heap} {N:List Str} {aj:Str} {sc:Scope} {f:Addr} {cd:Value} {A:Around} {outer:List Env} {s₀:Shared} {H₀:Hp} {E:XK} {cm:Bool}:Xh (Ss (CXo P w) P w K mg base N aj sc f cd A outer s₀ H₀ E cm) E:=fun aa σ H s e C od I h0 he q=>
 I.fly_held rfl rfl rfl h0 he fun h'' F cx=>⟨e,.ref C,Aek H e,_,rfl,F,cx.ok,q _ (fun b hb=>Jw hb) Sw⟩
end
structure XfK (K:PySem.W.Frag) (C:Addr) (f:Str):Prop where
 k:W8 K C
 hd:hasDictIn K C=true
 no:PySem.W.findIn K (.ref C) f=some none
section
variable {prog:Program} {w:World} {A:Around} {E:Value->Shared->Prop} {h:Heap} {g:Array GenState} {d:Drawn} {t:Nat} {os:OsState} {a C:Addr} {o:Obj} {od:Option Obj} {K:PySem.W.Frag} {f:Str} {v:Value}
open PySem.W in
theorem Ao0 {tk:Tok} (KX:K.In h) (I:InstAt h a o C od) (hf:findObj K C od f=some (.value v)) (hq:Q (.done (.ret v)) ⟨h,g,d,t,os⟩) :
  wpAny (model prog w) A (Builtin.«object.__getattribute__» ⟨[.ref a,.str f tk],[]⟩) Q E ⟨h,g,d,t,os⟩:=by
 have L0:=I.type (M:=model prog w);have L1:=looks_find (M:=model prog w) KX I hf;refine wpAny_bind (wpAny_pure (wpAny_bind (wpAny_pure (wpAny_bind (L0.at (wpAny_bind (L1.at ?_)))))));exact wpAny_pure hq
open PySem.W in
theorem Az4 (KX:K.In h) (F1:W8 K C) (I:InstAt h a o C od) (hf:findObj K C od f=some (.value v)) (hh:handedIn v=true) (hq:Q v ⟨h,g,d,t+1,os⟩) :
  wpAny (model prog w) A (getAttr (.ref a) f expr) Q E ⟨h,g,d,t,os⟩:=by
 have hx:=I.at_;have hc:=I.cls;have f3:=F.attr_ValueError.ga.bind (.ref a);have hx0:(expr&&onTheHeap (Value.builtin "BaseException.__getattribute__"))=false:=by cases expr <;> rfl
 have hx2:(Value.builtin "BaseException.__getattribute__"==Value.builtin "object.__getattribute__")=false:=by decide +kernel
 have hx1:(onTheHeap (Value.ref C)&&Value.builtin "BaseException.__getattribute__"==Value.builtin "object.__getattribute__")=false:=by rw[hx2];rfl
 have L1:Looks (model prog w) h (typeLookup (.ref C) "__getattribute__") (some (.builtin "BaseException.__getattribute__")):=looks_findIn KX F1.ga;have L2:Looks (model prog w) h (typeLookup (.ref C) "__getattr__") none:=looks_findIn KX F1.gn;unfold getAttr getAttrBy;refine wpAny_bind (wpAny_mkText ?_)
 repeat (any_goals (first|assumption|(with_reducible refine wpAny_loadPart_at hx ?_;rw[hc])|with_reducible refine L1.at ?_|with_reducible refine L2.at ?_|wp_step))
 refine codeAny_call_builtin F.attr_ValueError.ga.plain F.entry_bexc_ga (Ub KX F1 hx hc (Ao0 KX I hf ?_));show wpAny _ _ (handedOut v) _ _ _;rw[handedOut_of hh];exact wpAny_pure hq
end
def Bd2 (K:PySem.W.Frag) (ta:TE) (f:Str):TE:=fun σ H Q=>ta σ H fun x H1=>(∃a C dx fs v,x=.ref a/\H1 a=some (.ins C dx fs)/\Cls K C/\Nf K C f/\fs.lookup f=some v/\Q v H1)\/
 ∃a C n d v,x=.ref a/\H1 a=some (Su a (.ref C) (some (n,some d)))/\H1 d=some (.xd [(f,v)])/\XfK K C f/\Q v H1
theorem Auh (he:PE X e ta) (hb:attributeBase e f X.env (eval e X.env)=eval e X.env):PE X (.Attribute e f pos) (Bd2 X.K ta f):=by
 intro aa s σ H Q I h;refine As4 hb (thn (he aa s σ H _ I h) fun u s1 ⟨x,H1,I1,rx,z⟩=>?_);rcases z with ⟨a,C,dx,fs,v,ex,ea,c,n,l,q⟩|⟨a,C,n,d,v,ex,ea,ed,xk,q⟩
 .subst ex;obtain rfl:u=Value.ref a:=rx;exact Agu I1 ea c n l fun u' s2 I2 ru=>⟨v,H1,I2,ru,q⟩
 .subst ex;obtain rfl:u=Value.ref a:=rx;obtain⟨⟨⟨ob,vs,p1,p2,p3⟩,ok⟩,_,_⟩:=(show Dn X.prog X.w H1 s1.heap a (Su a (.ref C) (some (n,some d))) from I1.hok a _ ea);obtain⟨ob',vs',z1,z2,_,z4⟩:=ok n (some d) rfl;rw[p1] at z1;cases z1;obtain⟨mA,hns,hr⟩:=(show Dn X.prog X.w H1 s1.heap d (.xd [(f,v)]) from I1.hok d _ ed);obtain⟨od,ho,hl⟩:=Aaq hns;obtain⟨u',hu,ru⟩:=Oz.some_of (v:=v) (o:=mA f) (by
   have z:=hr f;rw[lookup_cons,beq_self_eq_true] at z;exact z)
  have J:PySem.W.InstAt s1.heap a ob C (some od):=⟨p1,p2,by unfold PySem.W.notCls;rw[p3],by rw[z4];exact ho⟩
  obtain⟨hh,g,dr,tk,os⟩:=s1;refine Az4 I1.kIn xk.k J (findObj_own xk.hd xk.no rfl (by rw[hl,hu])) (Aar ru) ⟨v,H1,I1.tok _,ru,q⟩
end L2
namespace D
open PySem PySem.Spec PyProof.Rows L2
inductive W where
 |non
 |bl (b:Bool)
 |int (i:Int)
 |str (x:Str)
 |tup (ws:List W)
 |ref (n:Nat)
 |scr
 |ty (n:String)
 |cls (c:Nat)
 |exn (c:Nat) (w:W)
inductive Cell where
 |lst (ws:List W)
 |dct (kvs:List (Key×W))
 |ins (c:Nat) (fs:List (Str×W))
abbrev Store:=List Cell
inductive R (α:Type) where
 |ok (a:α) (S:Store)
 |exc (c:Nat×W) (S:Store)
 |bad
abbrev M (α:Type):=Store->R α
@[inline] def M.ret {α:Type} (a:α):M α:=fun S=>.ok a S
def M.bind {α β:Type} (m:M α) (f:α->M β):M β:=fun S=>match m S with
 |.ok a S1=>f a S1
 |.exc c S1=>.exc c S1
 |.bad=>.bad
instance:Monad M where
 pure:=M.ret
 bind:=M.bind
def bad {α:Type}:M α:=fun _=>.bad
structure Th where
 K:PySem.W.Frag
 cl:Nat->Addr
 xf:Nat->Option Str
 l:Addr
 ns:List Int
 pl:Nat->Bool
def Scr (Θ:Th) (H:Hp):Prop:=(∃o,H Θ.l=some (.frz o (.lst (Θ.ns.map V.int))))\/
 ∃(o:Obj) (its:Array Value) (n:Nat),Θ.K.lookup Θ.l=some o/\o.cls=.type "list"/\o.dict=none/\o.data=.seq its n/\its.size<=sizeLine/\Vals (Θ.ns.map V.int) its.toList
theorem Scr.sq (h:Scr Θ H):SqL Θ.K H Θ.l (Θ.ns.map V.int):=by
 rcases h with ⟨o,h⟩|h
 .exact .inl (.inr ⟨o,h⟩)
 .exact .inr h
mutual
inductive RV (Θ:Th) (ρ:List Addr) (H:Hp):W->V->Prop
 |non:RV Θ ρ H .non .non
 |bl (b:Bool):RV Θ ρ H (.bl b) (.bl b)
 |int (i:Int):RV Θ ρ H (.int i) (.int i)
 |str (x:Str):RV Θ ρ H (.str x) (.str x)
 |tup {a:Addr} {ws:List W} {vs:List V}:H a=some (.tup vs)->RVs Θ ρ H ws vs->RV Θ ρ H (.tup ws) (.ref a)
 |ref {n:Nat} {a:Addr}:ρ[n]?=some a->RV Θ ρ H (.ref n) (.ref a)
 |scr:Scr Θ H->RV Θ ρ H .scr (.ref Θ.l)
 |ty (n:String):RV Θ ρ H (.ty n) (.ty n)
 |cls (c:Nat):RV Θ ρ H (.cls c) (.ref (Θ.cl c))
 |exn {c:Nat} {w:W} {a:Addr} {o:Option (Nat×Option Addr)}:Θ.xf c=none->a∉ρ->H a=some (Su a (.ref (Θ.cl c)) o)->RV Θ ρ H (.exn c w) (.ref a)
 |exf {c:Nat} {w:W} {v:V} {a d:Addr} {n:Str}:Θ.xf c=some n->a∉ρ->d∉ρ->H a=some (Su a (.ref (Θ.cl c)) (some (1,some d)))->H d=some (.xd [(n,v)])->RV Θ ρ H w v->RV Θ ρ H (.exn c w) (.ref a)
inductive RVs (Θ:Th) (ρ:List Addr) (H:Hp):List W->List V->Prop
 |nil:RVs Θ ρ H [] []
 |cons {w:W} {v:V} {ws:List W} {vs:List V}:RV Θ ρ H w v->RVs Θ ρ H ws vs->RVs Θ ρ H (w::ws) (v::vs)
end
structure Cy (ρ ρ':List Addr) (H H':Hp):Prop where
 t:∀b xs,H b=some (.tup xs)->H' b=some (.tup xs)
 f:∀b o u,H b=some (.frz o u)->H' b=some (.frz o u)
 k:∀b o,H b=some o->b∉ρ->H' b=some o
 n:∀b,b∈ρ'->b∈ρ\/H b=none
theorem Cy.refl (ρ:List Addr) (H:Hp):Cy ρ ρ H H:=⟨fun _ _ q=>q,fun _ _ _ q=>q,fun _ _ q _=>q,fun _ q=>.inl q⟩
theorem Cy.trans (a:Cy ρ ρ1 H H1) (b:Cy ρ1 ρ2 H1 H2):Cy ρ ρ2 H H2 where
 t:=fun c xs q=>b.t c xs (a.t c xs q)
 f:=fun c o u q=>b.f c o u (a.f c o u q)
 k:=fun c o q m=>b.k c o (a.k c o q m) fun z=>by
  rcases a.n c z with z|z
  .exact m z
  .rw[q] at z;cases z
 n:=fun c m=>by
  rcases b.n c m with z|z
  .exact a.n c z
  .by_cases hc:c∈ρ
   .exact .inl hc
   .refine .inr ?_;cases e:H c with
    |none=>rfl
    |some o=>rw[a.k c o e hc] at z;cases z
theorem Cy.out (t:Cy ρ ρ' H H') (h:H a=some o) (m:a∉ρ):a∉ρ':=fun z=>by
 rcases t.n a z with q|q
 .exact m q
 .rw[h] at q;cases q
theorem Scr.mono (t:Cy ρ ρ' H H') (h:Scr Θ H):Scr Θ H':=by
 rcases h with ⟨o,h⟩|h
 .exact .inl ⟨o,t.f _ _ _ h⟩
 .exact .inr h
mutual
theorem RV.mono {Θ:Th} {ρ ρ':List Addr} {H H':Hp} (p:ρ <+: ρ') (t:Cy ρ ρ' H H'):∀{w:W} {v:V},RV Θ ρ H w v->RV Θ ρ' H' w v
 |_,_,.non=>.non
 |_,_,.bl b=>.bl b
 |_,_,.int i=>.int i
 |_,_,.str x=>.str x
 |_,_,.tup h r=>.tup (t.t _ _ h) (RVs.mono p t r)
 |_,_,.scr h=>.scr (h.mono t)
 |_,_,.ty n=>.ty n
 |_,_,.cls c=>.cls c
 |_,_,.exn x m h=>.exn x (t.out h m) (t.k _ _ h m)
 |_,_,.exf x m m' h h' r=>.exf x (t.out h m) (t.out h' m') (t.k _ _ h m) (t.k _ _ h' m') (RV.mono p t r)
 |_,_,.ref h=>.ref (by
  obtain⟨r,rfl⟩:=p;obtain⟨hl,e⟩:=List.getElem?_eq_some_iff.mp h;rw[getElem?_append_left hl];exact h)
theorem RVs.mono {Θ:Th} {ρ ρ':List Addr} {H H':Hp} (p:ρ <+: ρ') (t:Cy ρ ρ' H H'):∀{ws:List W} {vs:List V},RVs Θ ρ H ws vs->RVs Θ ρ' H' ws vs
 |_,_,.nil=>.nil
 |_,_,.cons h r=>.cons (RV.mono p t h) (RVs.mono p t r)
end
theorem RVs.length:∀{ws:List W} {vs:List V},RVs Θ ρ H ws vs->ws.length=vs.length
 |_,_,.nil=>rfl
 |_,_,.cons _ r=>by rw[length_cons,length_cons,RVs.length r]
theorem RVs.get:∀{ws:List W} {vs:List V} {i:Nat} {w:W},RVs Θ ρ H ws vs->ws[i]?=some w->∃v,vs[i]?=some v/\RV Θ ρ H w v
 |_,_,_,_,.nil,e=>by simp at e
 |_,_,0,_,.cons h _,e=>by simp at e;subst e;exact⟨_,rfl,h⟩
 |_,_,i+1,w,.cons _ r,e=>by
  obtain⟨v,h1,h2⟩:=RVs.get (i:=i) (w:=w) r (by simpa using e)
  exact⟨v,by simpa using h1,h2⟩
theorem RVs.append:∀{ws us:List W} {vs zs:List V},RVs Θ ρ H ws vs->RVs Θ ρ H us zs->RVs Θ ρ H (ws ++ us) (vs ++ zs)
 |_,_,_,_,.nil,s=>s
 |_,_,_,_,.cons h r,s=>.cons h (RVs.append r s)
def RKV (Θ:Th) (ρ:List Addr) (H:Hp):List (Key×W)->List (Key×V)->Prop:=Paired fun p q=>p.1=q.1/\RV Θ ρ H p.2 q.2
def RFs (Θ:Th) (ρ:List Addr) (H:Hp):List (Str×W)->List (Str×V)->Prop:=Paired fun p q=>p.1=q.1/\RV Θ ρ H p.2 q.2
def Mu (Θ:Th) (ρ:List Addr) (H:Hp) (a:Addr):Cell->Prop
 |.lst ws=>∃vs,H a=some (.lst vs)/\RVs Θ ρ H ws vs
 |.dct kvs=>∃vs,H a=some (.dK vs)/\RKV Θ ρ H kvs vs
 |.ins c fs=>∃dx vs,H a=some (.ins (Θ.cl c) dx vs)/\RFs Θ ρ H fs vs
structure Rep (Θ:Th) (ρ:List Addr) (S:Store) (H:Hp):Prop where
 len:ρ.length=S.length
 nd:ρ.Nodup
 at_:∀(n:Nat) (a:Addr) (c:Cell),ρ[n]?=some a->S[n]?=some c->Mu Θ ρ H a c
def RSl (Θ:Th) (ρ:List Addr) (H:Hp):List (Option W)->List (Option V)->Prop:=fun δ σ=>∀(i:Nat) (w:W),δ[i]?=some (some w)->∃v,σ[i]?=some (some v)/\RV Θ ρ H w v
theorem RSl.mono (p:ρ <+: ρ') (t:Cy ρ ρ' H H') (h:RSl Θ ρ H δ σ):RSl Θ ρ' H' δ σ:=fun i w e=>by
 obtain⟨v,h1,h2⟩:=h i w e;exact⟨v,h1,h2.mono p t⟩
abbrev De:=List (Option W)
section
variable (Θ:Th)
def XP (ρ:List Addr) (H:Hp) (c:Nat×W) (E:XK):Prop:=match Θ.xf c.1 with
 |none=>E (.ref (Θ.cl c.1)) (some (if Θ.pl c.1 then 0 else 1,none)) H
 |some n=>∀d v,d∉ρ->H d=some (.xd [(n,v)])->RV Θ ρ H c.2 v->E (.ref (Θ.cl c.1)) (some (1,some d)) H
def Aw {α β:Type} (Rel:List Addr->Hp->α->β->Prop) (ρ:List Addr) (H:Hp) (r:R α) (Q:β->Hp->Prop) (E:XK):Prop:=match r with
 |.ok w S'=>∀ρ' H' v,ρ <+: ρ'->Cy ρ ρ' H H'->Rep Θ ρ' S' H'->Rel ρ' H' w v->Q v H'
 |.exc c S'=>∀ρ' H',ρ <+: ρ'->Cy ρ ρ' H H'->Rep Θ ρ' S' H'->XP Θ ρ' H' c E
 |.bad=>False
def tF (E:L2.St->XK) (f:De->M W):TE:=fun σ H Q=>∃ρ S δ,Rep Θ ρ S H/\RSl Θ ρ H δ σ/\Aw Θ (RV Θ) ρ H (f δ S) Q (E σ)
def tFs (E:L2.St->XK) (f:De->M (List W)):TA:=fun σ H Q=>∃ρ S δ,Rep Θ ρ S H/\RSl Θ ρ H δ σ/\Aw Θ (RVs Θ) ρ H (f δ S) Q (E σ)
def tFb (E:L2.St->XK) (f:De->M Bool):TT:=fun σ H Q=>∃ρ S δ,Rep Θ ρ S H/\RSl Θ ρ H δ σ/\Aw Θ (fun _ _ a b=>a=b) ρ H (f δ S) Q (E σ)
def spF (g:List W->M W):Sp:=fun vs H Q E=>∃ρ S ws,Rep Θ ρ S H/\RVs Θ ρ H ws vs/\Aw Θ (RV Θ) ρ H (g ws S) Q E
end
section
theorem WE.weak (h:WE X e t) (k:∀σ H Q,t' σ H Q->t σ H Q):WE X e t':=⟨fun aa s σ H Q I q=>h.un aa s σ H Q I (k σ H Q q)⟩
theorem WA.weak (h:WA X es t) (k:∀σ H Q,t' σ H Q->t σ H Q):WA X es t':=⟨fun pos aa s σ H Q I q=>h.un pos aa s σ H Q I (k σ H Q q)⟩
theorem WT.weak (h:WT X e t) (k:∀σ H Q,t' σ H Q->t σ H Q):WT X e t':=⟨fun aa s σ H Q I q=>h.un aa s σ H Q I (k σ H Q q)⟩
theorem Aw.shift {α β:Type} {Rel:List Addr->Hp->α->β->Prop} {Q:β->Hp->Prop}:∀{r:R α},Aw Θ Rel ρ H r Q E->ρ <+: ρ1->Cy ρ ρ1 H H1->Aw Θ Rel ρ1 H1 r Q E
 |.ok _ _,h,p,t=>fun ρ2 H2 v p2 t2 r2 q2=>h ρ2 H2 v (p.trans p2) (t.trans t2) r2 q2
 |.exc _ _,h,p,t=>fun ρ2 H2 p2 t2 r2=>h ρ2 H2 (p.trans p2) (t.trans t2) r2
 |.bad,h,_,_=>h
theorem Aw.seq {α β γ δ':Type} {Rel:List Addr->Hp->α->β->Prop} {Rel2:List Addr->Hp->γ->δ'->Prop} {ρ:List Addr} {H:Hp} {m:M α} {f:α->M γ} {S:Store} {Q:δ'->Hp->Prop} {E:XK} (h:Aw Θ Rel2 ρ H ((m >>= f) S) Q E) :
  Aw Θ Rel ρ H (m S) (fun v H1=>∃ρ1 S1 w,ρ <+: ρ1/\Cy ρ ρ1 H H1/\Rep Θ ρ1 S1 H1/\Rel ρ1 H1 w v/\Aw Θ Rel2 ρ1 H1 (f w S1) Q E) E:=by
 have h:Aw Θ Rel2 ρ H (M.bind m f S) Q E:=h;unfold M.bind at h;cases e:m S with
 |bad=>rw[e] at h;exact h
 |exc c S1=>rw[e] at h;exact h
 |ok w S1=>
  rw[e] at h;exact fun ρ1 H1 v p t r rw'=>⟨ρ1,S1,w,p,t,r,rw',Aw.shift h p t⟩
theorem Aw.now {α β:Type} {Rel:List Addr->Hp->α->β->Prop} {w:α} {v:β} {Q:β->Hp->Prop} (h:Aw Θ Rel ρ H ((pure w:M α) S) Q E) (r:Rep Θ ρ S H) (q:Rel ρ H w v):Q v H:=
 h ρ H v (prefix_refl ρ) (Cy.refl ρ H) r q
theorem Aw.mono {α β:Type} {Rel:List Addr->Hp->α->β->Prop} {r:R α} {Q Q':β->Hp->Prop} (h:Aw Θ Rel ρ H r Q E) (k:∀v H',Q v H'->Q' v H'):Aw Θ Rel ρ H r Q' E:=by
 cases r with
 |ok w S'=>exact fun ρ' H' v p t r q=>k v H' (h ρ' H' v p t r q)
 |exc c S'=>exact h
 |bad=>exact h
theorem O3 {E:L2.St->XK} {f g:De->M W} {op:W->W->M W} {r:R2} (hop:∀ρ S H x y vx vy Q E,Rep Θ ρ S H->RV Θ ρ H x vx->RV Θ ρ H y vy->Aw Θ (RV Θ) ρ H (op x y S) Q E->r vx vy H Q) :
  ∀σ H Q,tF Θ E (fun δ=>do let x<-f δ;let y<-g δ;op x y) σ H Q->tOp r (tF Θ E f) (tF Θ E g) σ H Q:=by
 rintro σ H Q ⟨ρ,S,δ,R,sl,h⟩;refine⟨ρ,S,δ,R,sl,(Aw.seq (Rel:=RV Θ) h).mono ?_⟩;rintro vx H1 ⟨ρ1,S1,x,p1,t1,R1,rx,h1⟩;refine⟨ρ1,S1,δ,R1,sl.mono p1 t1,(Aw.seq (Rel:=RV Θ) h1).mono ?_⟩;rintro vy H2 ⟨ρ2,S2,y,p2,t2,R2,ry,h2⟩;exact hop ρ2 S2 H2 x y vx vy Q (E σ) R2 (rx.mono p2 t2) ry h2
end
section
theorem Mu.there (h:Mu Θ ρ H a c):∃o,H a=some o:=by
 cases c with
 |lst ws=>obtain⟨vs,h,_⟩:=h;exact⟨_,h⟩
 |dct ws=>obtain⟨vs,h,_⟩:=h;exact⟨_,h⟩
 |ins c ws=>obtain⟨dx,vs,h,_⟩:=h;exact⟨_,h⟩
theorem Rep.get (R:Rep Θ ρ S H) {n:Nat} (h:S[n]?=some c):∃a,ρ[n]?=some a/\Mu Θ ρ H a c:=by
 have hl:n < ρ.length:=by rw[R.len];exact(List.getElem?_eq_some_iff.mp h).1
 exact⟨ρ[n],getElem?_eq_getElem hl,R.at_ n _ c (getElem?_eq_getElem hl) h⟩
theorem Rep.tracked (R:Rep Θ ρ S H) (h:a∈ρ):∃o,H a=some o:=by
 obtain⟨n,hn,rfl⟩:=List.getElem_of_mem h;have hs:n < S.length:=by rw[<-R.len];exact hn
 exact(R.at_ n _ _ (getElem?_eq_getElem hn) (getElem?_eq_getElem hs)).there
theorem Paired.imp2 {α β:Type} {F G:α->β->Prop} (f:∀a b,F a b->G a b) {l:List α} {m:List β} (r:Paired F l m):Paired G l m:=L2.Paired.mapP r f
theorem Mu.mono (p:ρ <+: ρ') (t:Cy ρ ρ' H H') (k:H' a=H a) (h:Mu Θ ρ H a c):Mu Θ ρ' H' a c:=by
 cases c with
 |lst ws=>obtain⟨vs,h,r⟩:=h;exact⟨vs,k.trans h,r.mono p t⟩
 |dct ws=>obtain⟨vs,h,r⟩:=h;exact⟨vs,k.trans h,Paired.imp2 (fun _ _ z=>⟨z.1,z.2.mono p t⟩) r⟩
 |ins c ws=>obtain⟨dx,vs,h,r⟩:=h;exact⟨dx,vs,k.trans h,Paired.imp2 (fun _ _ z=>⟨z.1,z.2.mono p t⟩) r⟩
theorem Cm (h:H p=none) (q:∀b,b∈ρ'->b∈ρ\/b=p:=by intro b hb;first|exact .inl hb|(rcases mem_append.mp hb with z|z;exact .inl z;exact .inr (mem_singleton.mp z))):Cy ρ ρ' H (upd H p o) where
 t:=fun b xs q=>by rw[Ax (Bv q h)];exact q
 f:=fun b o u q=>by rw[Ax (Bv q h)];exact q
 k:=fun b o q _=>by rw[Ax (Bv q h)];exact q
 n:=fun b m=>by
  rcases q b m with z|z
  .exact .inl z
  .subst z;exact .inr h
theorem Rep.beside (R:Rep Θ ρ S H) (h:H p=none):Rep Θ ρ S (upd H p o) where
 len:=R.len
 nd:=R.nd
 at_:=fun n a c e1 e2=>by
  have q:=R.at_ n a c e1 e2;obtain⟨u,hu⟩:=q.there;exact q.mono (prefix_refl ρ) (Cm h) (Ax (Bv hu h))
theorem Rep.alloc (R:Rep Θ ρ S H) (h:H p=none) (q:Mu Θ (ρ ++ [p]) (upd H p o) p c):Rep Θ (ρ ++ [p]) (S ++ [c]) (upd H p o) where
 len:=by rw[length_append,length_append,R.len];rfl
 nd:=by
  rw[nodup_append];refine⟨R.nd,by simp,fun a ha b hb=>?_⟩
  obtain rfl:b=p:=by simpa using hb
  obtain⟨u,hu⟩:=R.tracked ha;exact Bv hu h
 at_:=fun n a d e1 e2=>by
  by_cases hn:n < ρ.length
  .rw[getElem?_append_left hn] at e1;rw[getElem?_append_left (by rw[<-R.len];exact hn)] at e2
   have z:=R.at_ n a d e1 e2;obtain⟨u,hu⟩:=z.there;exact z.mono (prefix_append _ _) (Cm h) (Ax (Bv hu h))
  .have hl:=(List.getElem?_eq_some_iff.mp e1).1;rw[length_append,length_singleton] at hl;obtain rfl:n=ρ.length:=by omega
   rw[getElem?_append_right (le_refl _),sub_self] at e1;rw[R.len,getElem?_append_right (le_refl _),sub_self] at e2;obtain rfl:p=a:=by simpa using e1
   obtain rfl:c=d:=by simpa using e2
   exact q
theorem Li:(ρ ++ [p])[ρ.length]?=some p:=by simp
theorem Rep.write {n:Nat} (R:Rep Θ ρ S H) (hn:ρ[n]?=some a) (t:Cy ρ ρ H (upd H a o)) (q:Mu Θ ρ (upd H a o) a c):Rep Θ ρ (S.set n c) (upd H a o) where
 len:=by rw[length_set];exact R.len
 nd:=R.nd
 at_:=fun m b d e1 e2=>by
  by_cases hm:m=n
  .subst hm;rw[hn] at e1;cases e1;have hl:m < S.length:=by rw[<-R.len];exact(List.getElem?_eq_some_iff.mp hn).1
   rw[getElem?_set_self hl] at e2;cases e2;exact q
  .rw[getElem?_set_ne (Ne.symm hm)] at e2;have ne:b≠a:=by
    rintro rfl;obtain⟨h1,e1'⟩:=List.getElem?_eq_some_iff.mp e1;obtain⟨h2,e2'⟩:=List.getElem?_eq_some_iff.mp hn;exact hm ((getElem_inj R.nd).mp (e1'.trans e2'.symm))
   exact(R.at_ m b d e1 e2).mono (prefix_refl ρ) t (Ax ne)
theorem Sx {n:Nat} (hn:ρ[n]?=some a) (h:H a=some u) (n1:∀xs,u≠.tup xs) (n2:∀ob x,u≠.frz ob x):Cy ρ ρ H (upd H a o) where
 k:=fun b o q m=>by
  rw[Ax (by rintro rfl;exact m (mem_of_getElem? hn))]
  exact q
 n:=fun b m=>.inl m
 t:=fun b xs q=>by
  rw[Ax (by rintro rfl;rw[h] at q;exact n1 xs (Option.some.inj q))]
  exact q
 f:=fun b ob x q=>by
  rw[Ax (by rintro rfl;rw[h] at q;exact n2 ob x (Option.some.inj q))]
  exact q
end
def big:Nat:=1000000
theorem Km {n:Nat} (h:n<=big):n<=sizeLine:=le_trans h (by decide)
def Ce (ws:List W):M W:=fun S=>if ws.length<=big then .ok (.ref S.length) (S ++ [.lst ws]) else .bad
def Acn (ws:List W):M W:=if ws.length<=big then pure (.tup ws) else bad
def addW:W->W->M W
 |.int i,.int j=>pure (.int (i+j))
 |.str x,.str y=>if x.length+y.length<=big then pure (.str (x ++ y)) else bad
 |.tup xs,.tup ys=>if !xs.isEmpty&&decide (xs.length+ys.length<=big) then pure (.tup (xs ++ ys)) else bad
 |_,_=>bad
def small (i:Int):Bool:=decide (-(2 ^ 64) < i)&&decide (i < 2 ^ 64)
def Az5:W->W->M W
 |.int i,.int j=>pure (.int (i - j))
 |_,_=>bad
def Az6:W->W->M W
 |.int i,.int j=>if small i||small j then pure (.int (i * j)) else bad
 |.str z,.int n=>if decide (z.length<=16)&&decide (0<=n)&&decide (n<=1048576) then pure (.str (Txt.mul z n)) else bad
 |_,_=>bad
def Az7:W->W->M W
 |.int i,.int j=>if 0 < j then pure (.int (i % j)) else bad
 |_,_=>bad
section
theorem Ao1 {α β:Type} {Rel:List Addr->Hp->α->β->Prop} {Q:β->Hp->Prop} (h:Aw Θ Rel ρ H ((bad:M α) S) Q E):False:=h
theorem Bda (R:Rep Θ ρ S H) (hx:RV Θ ρ H x vx) (hy:RV Θ ρ H y vy) (h:Aw Θ (RV Θ) ρ H (addW x y S) Q E) :
  (rI0 (fun i j=>V.int (i+j)) vx vy H Q\/(∃i j,vx=.str i/\vy=.str j/\i.length+j.length<=sizeLine/\Q (.str (i ++ j)) H))\/Axr Θ.K vx vy H Q:=by
 cases hx <;> cases hy <;> first|exact(show False from h).elim|skip
 case int.int i j=>exact .inl (.inl ⟨_,_,rfl,rfl,h.now R (.int _)⟩)
 case str.str i j=>
  simp only[addW] at h;split at h
  .rename_i hz;exact .inl (.inr ⟨_,_,rfl,rfl,Km hz,h.now R (.str _)⟩)
  .exact(Ao1 h).elim
 case tup.tup a ws vs h1 r1 b us zs h2 r2=>
  simp only[addW] at h;split at h
  .rename_i hz;obtain⟨hz1,hz2⟩:=and_eq_true_iff.mp hz;have l1:=r1.length;have l2:=r2.length;have hz2:=of_decide_eq_true hz2;refine .inr (⟨a,b,vs,zs,rfl,rfl,SqT.of h1,SqT.of h2,?_,Km (by rw[<-l1,<-l2];exact hz2),fun e=>?_,fun _ p hp=>?_⟩)
   .rintro rfl;cases ws with
    |nil=>cases hz1
    |cons w ws=>cases r1
   .subst e;cases r2;rw[append_nil] at h;exact h.now R (.tup h1 r1)
   .exact h ρ _ _ (prefix_refl ρ) (Cm hp) (R.beside hp) (.tup Bm ((r1.append r2).mono (prefix_refl ρ) (Cm hp)))
  .exact(show False from h).elim
end
def Ao2:W->W->M W
 |.int i,.int j=>if decide (0 < j)&&decide (j < 1073741824) then pure (.int (i / j)) else bad
 |_,_=>bad
def Az8:W->W->M W
 |.int i,.int j=>if 0<=j then pure (.int (i / 2 ^ j.toNat)) else bad
 |_,_=>bad
def Az9:W->W->M W
 |.int i,.int j=>if decide (0<=j)&&decide (j<=1000000)&&decide (i.natAbs < 2 ^ 64) then pure (.int (i * 2 ^ j.toNat)) else bad
 |_,_=>bad
def Baa:W->W->M W
 |.int i,.int j=>pure (.int (Builtin.bitAnd i j))
 |_,_=>bad
def Alq (p:Int->Int->Bool) (q:Str->Str->Bool):W->W->M W
 |.int i,.int j=>pure (.bl (p i j))
 |.str i,.str j=>pure (.bl (q i j))
 |_,_=>bad
def J4 (i j:Str):Bool:=decide (i.cps.toList < j.cps.toList)
section
theorem Hd {α:Type} [Decidable c] {m:M α} {Rel:List Addr->Hp->α->β->Prop} {Q:β->Hp->Prop} (h:Aw Θ Rel ρ H ((if c then m else bad) S) Q E):c/\Aw Θ Rel ρ H (m S) Q E:=by
 by_cases hc:c
 .rw[if_pos hc] at h;exact⟨hc,h⟩
 .rw[if_neg hc] at h;exact(show False from h).elim
theorem Bdb (R:Rep Θ ρ S H) (hx:RV Θ ρ H x vx) (hy:RV Θ ρ H y vy) (h:Aw Θ (RV Θ) ρ H (Az5 x y S) Q E):rI0 (fun i j=>V.int (i - j)) vx vy H Q:=by
 unfold Az5 at h;split at h
 .cases hx;cases hy;exact⟨_,_,rfl,rfl,h.now R (.int _)⟩
 .exact(show False from h).elim
theorem Bgj (R:Rep Θ ρ S H) (hx:RV Θ ρ H x vx) (hy:RV Θ ρ H y vy) (h:Aw Θ (RV Θ) ρ H (Az6 x y S) Q E) :
  rI Asy (fun i j=>V.int (i * j)) vx vy H Q\/(∃z n,vx=.str z/\vy=.int n/\z.length<=16/\0<=n/\n<=1048576/\Q (.str (Txt.mul z n)) H):=by
 unfold Az6 at h;split at h
 .cases hx;cases hy;obtain⟨hc,h⟩:=Hd h;refine .inl ⟨_,_,rfl,rfl,?_,h.now R (.int _)⟩;rcases or_eq_true_iff.mp hc with q|q
  .exact .inl ⟨of_decide_eq_true (and_eq_true_iff.mp q).1,of_decide_eq_true (and_eq_true_iff.mp q).2⟩
  .exact .inr ⟨of_decide_eq_true (and_eq_true_iff.mp q).1,of_decide_eq_true (and_eq_true_iff.mp q).2⟩
 .cases hx;cases hy;obtain⟨hc,h⟩:=Hd h;obtain⟨hc,h3⟩:=and_eq_true_iff.mp hc;obtain⟨h1,h2⟩:=and_eq_true_iff.mp hc;exact .inr ⟨_,_,rfl,rfl,of_decide_eq_true h1,of_decide_eq_true h2,of_decide_eq_true h3,h.now R (.str _)⟩
 .exact(show False from h).elim
theorem Bgk (R:Rep Θ ρ S H) (hx:RV Θ ρ H x vx) (hy:RV Θ ρ H y vy) (h:Aw Θ (RV Θ) ρ H (Az7 x y S) Q E):rI (fun _ j=>0 < j) (fun i j=>V.int (i % j)) vx vy H Q:=by
 unfold Az7 at h;split at h
 .cases hx;cases hy;obtain⟨hc,h⟩:=Hd h;exact⟨_,_,rfl,rfl,hc,h.now R (.int _)⟩
 .exact(show False from h).elim
theorem Bd3 (R:Rep Θ ρ S H) (hx:RV Θ ρ H x vx) (hy:RV Θ ρ H y vy) (h:Aw Θ (RV Θ) ρ H (Ao2 x y S) Q E):rI Bc4 (fun i j=>V.int (i / j)) vx vy H Q:=by
 unfold Ao2 at h;split at h
 .cases hx;cases hy;obtain⟨hc,h⟩:=Hd h;exact⟨_,_,rfl,rfl,⟨of_decide_eq_true (and_eq_true_iff.mp hc).1,of_decide_eq_true (and_eq_true_iff.mp hc).2⟩,h.now R (.int _)⟩
 .exact(show False from h).elim
theorem Bgl (R:Rep Θ ρ S H) (hx:RV Θ ρ H x vx) (hy:RV Θ ρ H y vy) (h:Aw Θ (RV Θ) ρ H (Az8 x y S) Q E):rI (fun _ j=>0<=j) (fun i j=>V.int (i / 2 ^ j.toNat)) vx vy H Q:=by
 unfold Az8 at h;split at h
 .cases hx;cases hy;obtain⟨hc,h⟩:=Hd h;exact⟨_,_,rfl,rfl,hc,h.now R (.int _)⟩
 .exact(show False from h).elim
theorem Bgm (R:Rep Θ ρ S H) (hx:RV Θ ρ H x vx) (hy:RV Θ ρ H y vy) (h:Aw Θ (RV Θ) ρ H (Az9 x y S) Q E):rI Bc5 (fun i j=>V.int (i * 2 ^ j.toNat)) vx vy H Q:=by
 unfold Az9 at h;split at h
 .cases hx;cases hy;obtain⟨hc,h⟩:=Hd h;obtain⟨hc,h3⟩:=and_eq_true_iff.mp hc;obtain⟨h1,h2⟩:=and_eq_true_iff.mp hc;exact⟨_,_,rfl,rfl,⟨of_decide_eq_true h1,of_decide_eq_true h2,of_decide_eq_true h3⟩,h.now R (.int _)⟩
 .exact(show False from h).elim
theorem Bgn (R:Rep Θ ρ S H) (hx:RV Θ ρ H x vx) (hy:RV Θ ρ H y vy) (h:Aw Θ (RV Θ) ρ H (Baa x y S) Q E):rI0 (fun i j=>V.int (Builtin.bitAnd i j)) vx vy H Q:=by
 unfold Baa at h;split at h
 .cases hx;cases hy;exact⟨_,_,rfl,rfl,h.now R (.int _)⟩
 .exact(show False from h).elim
theorem Bab {p:Int->Int->Bool} (R:Rep Θ ρ S H) (hx:RV Θ ρ H x vx) (hy:RV Θ ρ H y vy) (h:Aw Θ (RV Θ) ρ H (Alq p q x y S) Q E) :
  rI0 (fun i j=>V.bl (p i j)) vx vy H Q\/∃i j,vx=.str i/\vy=.str j/\Q (.bl (q i j)) H:=by
 unfold Alq at h;split at h
 .cases hx;cases hy;exact .inl ⟨_,_,rfl,rfl,h.now R (.bl _)⟩
 .cases hx;cases hy;exact .inr ⟨_,_,rfl,rfl,h.now R (.bl _)⟩
 .exact(show False from h).elim
end
inductive Bop where
 |add|sub|mul|fdiv|mod|shl|shr|and
inductive Cop where
 |lt|le|gt|ge
def Bop.fn:Bop->W->W->M W
 |.add=>addW
 |.sub=>Az5
 |.mul=>Az6
 |.fdiv=>Ao2
 |.mod=>Az7
 |.shl=>Az9
 |.shr=>Az8
 |.and=>Baa
def Bop.of:Operator->Option Bop
 |.Add=>some .add
 |.Sub=>some .sub
 |.Mult=>some .mul
 |.FloorDiv=>some .fdiv
 |.Mod=>some .mod
 |.LShift=>some .shl
 |.RShift=>some .shr
 |.BitAnd=>some .and
 |_=>none
section
def Ao (o:Bop) (f g:De->M W):De->M W:=fun δ=>do let x<-f δ;let y<-g δ;o.fn x y
theorem Bd4 (hK:X.K=Θ.K) (h:Bop.of op=some o) (ha:WE X a (tF Θ E f)) (hb:WE X b (tF Θ E g)):WE X (.BinOp a op b pos) (tF Θ E (Ao o f g)):=by
 cases op <;> simp only[Bop.of,Option.some.injEq,reduceCtorEq] at h <;> subst h
 .refine WE.weak (kop ((Ayx.or Ags).or As8) ha hb) (O3 fun ρ S H x y vx vy Q E R hx hy h=>?_);rw[hK];exact Bda R hx hy h
 .exact WE.weak (kop Ayy ha hb) (O3 fun ρ S H x y vx vy Q E R hx hy h=>Bdb R hx hy h)
 .exact WE.weak (kop (Ayz.or Aha) ha hb) (O3 fun ρ S H x y vx vy Q E R hx hy h=>Bgj R hx hy h)
 .exact WE.weak (kop Ay0 ha hb) (O3 fun ρ S H x y vx vy Q E R hx hy h=>Bgk R hx hy h)
 .exact WE.weak (kop Ay1 ha hb) (O3 fun ρ S H x y vx vy Q E R hx hy h=>Bgm R hx hy h)
 .exact WE.weak (kop Ay2 ha hb) (O3 fun ρ S H x y vx vy Q E R hx hy h=>Bgl R hx hy h)
 .exact WE.weak (kop Ay3 ha hb) (O3 fun ρ S H x y vx vy Q E R hx hy h=>Bgn R hx hy h)
 .exact WE.weak (kop Asz ha hb) (O3 fun ρ S H x y vx vy Q E R hx hy h=>Bd3 R hx hy h)
end
section
variable {Θ:Th} {X:Cx} {a b c e:Expr} {pos:Pos} {E:L2.St->XK} {f g h:De->M W} {x:Str} {rest:List Expr}
def kF (w:W):De->M W:=fun _=>pure w
def Ac (i:Nat):De->M W:=fun δ=>match δ[i]? with
 |some (some w)=>pure w
 |_=>bad
def Jv:W->Option V
 |.non=>some .non
 |.bl b=>some (.bl b)
 |.int i=>some (.int i)
 |.str x=>some (.str x)
 |_=>none
theorem Ai9 (h:D.Jv w=some v):RV Θ ρ H w v:=by
 cases w <;> simp[D.Jv] at h <;> subst h
 .exact .non
 .exact .bl _
 .exact .int _
 .exact .str _
theorem Aco (hw:D.Jv w=some v) (h:WE X e (tC v)):WE X e (tF Θ E (kF w)):=WE.weak h fun σ H Q q=>by
 obtain⟨ρ,S,δ,R,sl,q⟩:=q;exact q.now R (Ai9 hw)
theorem Bd5 {i:Nat} (hv:WE X e (Ayc i)):WE X e (tF Θ E (Ac i)):=WE.weak hv fun σ H Q q=>by
 obtain⟨ρ,S,δ,R,sl,q⟩:=q;simp only[Ac] at q;cases e1:δ[i]? with
 |none=>rw[e1] at q;exact(show False from q).elim
 |some o=>
  rw[e1] at q;cases o with
  |none=>exact(show False from q).elim
  |some w=>
   obtain⟨v,h1,h2⟩:=sl i w e1;exact⟨v,h1,q.now R h2⟩
def asB {α:Type} (w:W) (k:Bool->M α):M α:=match w with
 |.bl b=>k b
 |_=>bad
def Ff (f g:De->M W):De->M W:=fun δ=>do let x<-f δ;asB x fun b=>if b then g δ else pure (.bl false)
def orF (f g:De->M W):De->M W:=fun δ=>do let x<-f δ;asB x fun b=>if b then pure (.bl true) else g δ
def Aae (f:De->M W):De->M W:=fun δ=>do let x<-f δ;asB x fun b=>pure (.bl (!b))
def Ay (f:De->M W):De->M Bool:=fun δ=>do let x<-f δ;asB x fun b=>pure b
theorem Yk {α β:Type} {Rel:List Addr->Hp->α->β->Prop} {ρ:List Addr} {H:Hp} {S:Store} {w:W} {v:V} {k:Bool->M α} {Q:β->Hp->Prop} {E:XK} (rv:RV Θ ρ H w v) (q:Aw Θ Rel ρ H (asB w k S) Q E):∃b,v=.bl b/\Aw Θ Rel ρ H (k b S) Q E:=by
 cases rv <;> first|exact(show False from q).elim|exact⟨_,rfl,q⟩
theorem Bd6 (ha:WE X a (tF Θ E f)) (hb:WE X (.BoolOp .And (b::rest) pos) (tF Θ E g)):WE X (.BoolOp .And (a::b::rest) pos) (tF Θ E (Ff f g)):=WE.weak (Bf6 ha hb) fun σ H Q ⟨ρ,S,δ,R,sl,q⟩=>by
 refine⟨ρ,S,δ,R,sl,(Aw.seq (Rel:=RV Θ) q).mono ?_⟩;rintro v H1 ⟨ρ1,S1,w,p1,t1,R1,rv,q1⟩;obtain⟨b,rfl,q2⟩:=Yk rv q1;refine⟨b,rfl,?_⟩;cases b with
 |true=>exact L2.Ag5 ⟨ρ1,S1,δ,R1,sl.mono p1 t1,q2⟩
 |false=>exact L2.Ag4 (q2.now R1 (.bl _))
theorem Bgo (ha:WE X a (tF Θ E f)) (hb:WE X (.BoolOp .Or (b::rest) pos) (tF Θ E g)):WE X (.BoolOp .Or (a::b::rest) pos) (tF Θ E (orF f g)):=WE.weak (kor ha hb) fun σ H Q ⟨ρ,S,δ,R,sl,q⟩=>by
 refine⟨ρ,S,δ,R,sl,(Aw.seq (Rel:=RV Θ) q).mono ?_⟩;rintro v H1 ⟨ρ1,S1,w,p1,t1,R1,rv,q1⟩;obtain⟨b,rfl,q2⟩:=Yk rv q1;refine⟨b,rfl,?_⟩;cases b with
 |true=>exact L2.Ag5 (q2.now R1 (.bl _))
 |false=>exact L2.Ag4 ⟨ρ1,S1,δ,R1,sl.mono p1 t1,q2⟩
theorem Bd7 (ha:WE X a (tF Θ E f)):WE X (.UnaryOp .Not a pos) (tF Θ E (Aae f)):=WE.weak (knot ha) fun σ H Q ⟨ρ,S,δ,R,sl,q⟩=>by
 refine⟨ρ,S,δ,R,sl,(Aw.seq (Rel:=RV Θ) q).mono ?_⟩;rintro v H1 ⟨ρ1,S1,w,p1,t1,R1,rv,q1⟩;obtain⟨b,rfl,q2⟩:=Yk rv q1;exact⟨b,rfl,q2.now R1 (.bl _)⟩
theorem Ahh (k:∀σ H Q,tF Θ E f σ H Q->t σ H Q) (h:WT X e (tB t)):WT X e (tFb Θ E (Ay f)):=WT.weak h fun σ H Q ⟨ρ,S,δ,R,sl,q⟩=>by
 refine k σ H _ ⟨ρ,S,δ,R,sl,(Aw.seq (Rel:=RV Θ) q).mono ?_⟩;rintro v H1 ⟨ρ1,S1,w,p1,t1,R1,rv,q1⟩;obtain⟨b,rfl,q2⟩:=Yk rv q1;exact⟨b,rfl,q2.now R1 rfl⟩
def Cop.fn:Cop->W->W->M W
 |.lt=>Alq (fun i j=>decide (i < j)) J4
 |.le=>Alq (fun i j=>decide (i<=j)) (fun i j=>!J4 j i)
 |.gt=>Alq (fun i j=>decide (j < i)) (fun i j=>J4 j i)
 |.ge=>Alq (fun i j=>decide (j<=i)) (fun i j=>!J4 i j)
def nilF:De->M (List W):=fun _=>pure []
def Aa (f:De->M W) (g:De->M (List W)):De->M (List W):=fun δ=>do let x<-f δ;let xs<-g δ;pure (x::xs)
def Jk (g:De->M (List W)):De->M W:=fun δ=>do let xs<-g δ;Acn xs
def Oj (g:De->M (List W)):De->M W:=fun δ=>do let xs<-g δ;Ce xs
theorem Bd8:WA X [] (tFs Θ E nilF):=WA.weak Azw fun σ H Q ⟨ρ,S,δ,R,sl,q⟩=>q.now R .nil
theorem Bac (ha:WE X a (tF Θ E f)) (hr:WA X es (tFs Θ E gs)) (hs:starEach (a::es) X.env=(false,eval a X.env)::starEach es X.env):WA X (a::es) (tFs Θ E (Aa f gs)):=WA.weak (At0 ha hr hs) fun σ H Q ⟨ρ,S,δ,R,sl,q⟩=>by
 refine⟨ρ,S,δ,R,sl,(Aw.seq (Rel:=RV Θ) q).mono ?_⟩;rintro v H1 ⟨ρ1,S1,w,p1,t1,R1,rv,q1⟩;refine⟨ρ1,S1,δ,R1,sl.mono p1 t1,(Aw.seq (Rel:=RVs Θ) q1).mono ?_⟩;rintro vs H2 ⟨ρ2,S2,ws,p2,t2,R2,rvs,q2⟩;exact q2.now R2 (.cons (rv.mono p2 t2) rvs)
theorem Bd9 {j:Nat} (h:WA X es (tFs Θ E gs)):WE X (.Tuple es j pos) (tF Θ E (Jk gs)):=WE.weak (Bf8 h) fun σ H Q ⟨ρ,S,δ,R,sl,q⟩=>by
 refine⟨ρ,S,δ,R,sl,(Aw.seq (Rel:=RVs Θ) q).mono ?_⟩;rintro vs H1 ⟨ρ1,S1,ws,p1,t1,R1,rvs,q1⟩;obtain⟨hz,q1⟩:=Hd (m:=(pure (W.tup ws):M W)) (show Aw Θ (RV Θ) ρ1 H1 ((if ws.length<=big then (pure (W.tup ws):M W) else bad) S1) Q (E σ) from by unfold Acn at q1;exact q1)
 exact⟨Km (by rw[<-rvs.length];exact hz),fun p hp=>q1 ρ1 _ _ (prefix_refl _) (Cm hp) (R1.beside hp) (.tup Bm (rvs.mono (prefix_refl _) (Cm hp)))⟩
theorem Bea (h:WA X es (tFs Θ E gs)):WE X (.List es pos) (tF Θ E (Oj gs)):=WE.weak (Bf7 h) fun σ H Q ⟨ρ,S,δ,R,sl,q⟩=>by
 refine⟨ρ,S,δ,R,sl,(Aw.seq (Rel:=RVs Θ) q).mono ?_⟩;rintro vs H1 ⟨ρ1,S1,ws,p1,t1,R1,rvs,q1⟩;simp only[Ce] at q1;by_cases hz:ws.length<=big
 .rw[if_pos hz] at q1;refine⟨Km (by rw[<-rvs.length];exact hz),fun p hp=>q1 (ρ1 ++ [p]) _ _ (prefix_append _ _) (Cm hp) (R1.alloc hp ⟨_,Bm,rvs.mono (prefix_append _ _) (Cm hp)⟩) (.ref ?_)⟩
  rw[<-R1.len];exact Li
 .rw[if_neg hz] at q1;exact q1.elim
def Ae (s:List W->M W) (g:De->M (List W)):De->M W:=fun δ=>do let ws<-g δ;s ws
theorem Bae {n:Nat} (D:Og X.K X.mg x df ps fa fd) (F:Gw X.prog X.w X.K X.mg X.base CX n fa fd ps (spF Θ s) cm)
  (hr:Hc n X.A cm) (hx:Du CX X E) (ha:WA X (a::es) (tFs Θ E gs)) (hg:X.env.kindOf x=some .globalImplicit) (hdb:(x==("__debug__":Str))=false) (he:starEach (a::es) X.env=(false,eval a X.env)::starEach es X.env) (hpl:(backTo pos (starEach es X.env)).any (·.1)=false) :
  WE X (.Call (.Name x p) (a::es) [] pos) (tF Θ E (Ae s gs)):=WE.weak (Azx D F hr hx ha hg hdb he hpl) fun σ H Q ⟨ρ,S,δ,R,sl,q⟩=>by
 refine⟨ρ,S,δ,R,sl,(Aw.seq (Rel:=RVs Θ) q).mono ?_⟩;rintro vs H1 ⟨ρ1,S1,ws,p1,t1,R1,rvs,q1⟩;exact⟨ρ1,S1,ws,R1,by rw[append_nil];exact rvs,q1⟩
end
def Ex {α β:Type} (f:α->Option β):List α->Option (List β)
 |[]=>some []
 |a::as=>(f a).bind fun b=>(Ex f as).map (b::·)
def Jl (S:Store):Nat->W->Option PyData
 |0,.non=>some .none
 |0,.bl b=>some (.bool b)
 |0,.int i=>some (.int i)
 |0,.str x=>some (.str x)
 |0,_=>none
 |_+1,.non=>some .none
 |_+1,.bl b=>some (.bool b)
 |_+1,.int i=>some (.int i)
 |_+1,.str x=>some (.str x)
 |n+1,.tup ws=>(Ex (Jl S n) ws).map PyData.tuple
 |n+1,.ref k=>match S[k]? with
  |some (.lst ws)=>(Ex (Jl S n) ws).map PyData.list
  |some (.dct [])=>some (.dict [])
  |_=>none
 |_+1,.scr=>none
 |_+1,.ty _=>none
 |_+1,.cls _=>none
 |_+1,.exn _ _=>none
section
theorem Acp (hf:∀w v d,RV Θ ρ H w v->f w=some d->DV H v d):∀{ws:List W} {vs:List V} {ds:List PyData},RVs Θ ρ H ws vs->Ex f ws=some ds->DVs H vs ds
 |_,_,_,.nil,e=>by cases e;exact .nil
 |w::ws,_,ds,.cons h r,e=>by
  rw[Ex] at e;cases e1:f w with
  |none=>rw[e1] at e;cases e
  |some d=>
   rw[e1] at e;cases e2:Ex f ws with
   |none=>rw[e2] at e;cases e
   |some es=>
    rw[e2] at e;cases e;exact .cons (hf _ _ _ h e1) (Acp hf r e2)
theorem Uc (R:Rep Θ ρ S H):∀(n:Nat) (w:W) (v:V) (d:PyData),RV Θ ρ H w v->Jl S n w=some d->DV H v d
 |0,w,v,d,h,e=>by
  cases h <;> simp only[Jl,Option.some.injEq,reduceCtorEq] at e <;> subst e
  .exact .non
  .exact .bl _
  .exact .int _
  .exact .str _
 |n+1,w,v,d,h,e=>by
  cases h with
  |non=>cases e;exact .non
  |bl b=>cases e;exact .bl _
  |int i=>cases e;exact .int _
  |str x=>cases e;exact .str _
  |scr _=>cases e
  |ty _=>cases e
  |cls _=>cases e
  |exn _ _ _=>cases e
  |exf _ _ _ _ _ _=>cases e
  |@tup a ws vs h1 r1=>
   rw[Jl] at e;cases e2:Ex (Jl S n) ws with
   |none=>rw[e2] at e;cases e
   |some ds=>
    rw[e2] at e;cases e;exact .tup h1 (Acp (Uc R n) r1 e2)
  |@ref k a hk=>
   rw[Jl] at e;cases e1:S[k]? with
   |none=>rw[e1] at e;cases e
   |some c=>
    rw[e1] at e;obtain⟨a',ha',q⟩:=R.get e1;rw[hk] at ha';cases ha';cases c with
    |lst ws=>
     obtain⟨vs,h1,r1⟩:=q;cases e2:Ex (Jl S n) ws with
     |none=>simp only[e2] at e;cases e
     |some ds=>
      simp only[e2] at e;cases e;exact .lst h1 (Acp (Uc R n) r1 e2)
    |dct kvs=>
     cases kvs with
     |nil=>
      cases e;obtain⟨vs,h1,r1⟩:=q;cases r1;exact .dct h1
     |cons p kvs=>cases e
    |ins c fs=>cases e
end
def eqD (neg:Bool) (x y:W):M W:=fun S=>match Jl S 16 x,Jl S 16 y with
 |some d,some e=>if SeqAt.shaped d&&SeqAt.shaped e then .ok (.bl (if neg then !PyData.eqv d e else PyData.eqv d e)) S else .bad
 |_,_=>.bad
def eqW (neg:Bool) (x y:W):M W:=match x,y with
 |.str a,.str b=>pure (.bl (if neg then !(a==b) else a==b))
 |x,y=>eqD neg x y
def Ao3:W->Bool
 |.non=>true
 |_=>false
def isW:W->W->M W
 |x,.non=>pure (.bl (Ao3 x))
 |_,_=>bad
def Aaf:W->Option Key
 |.int i=>some (.inl i)
 |.str x=>some (.inr x)
 |_=>none
def Ao4 (kvs:List (Key×W)) (k:Key):Option W:=(kvs.find? fun p=>decide (p.1=k)).map (·.2)
def inW (x y:W):M W:=match x,y with
 |.str i,.str j=>pure (.bl (!(Builtin.Str.occurrences j i 0 j.length 1).isEmpty))
 |_,_=>bad
section
theorem Acq (hx:RV Θ ρ H x vx) (h:Aaf x=some k):vx=kV k:=by
 cases hx <;> simp only[Aaf,Option.some.injEq,reduceCtorEq] at h <;> subst h <;> rfl
theorem Aui (r:RKV Θ ρ H kvs vs) (k:Key):(∃w v,Ao4 kvs k=some w/\Ua vs k=some v/\RV Θ ρ H w v)\/(Ao4 kvs k=none/\Ua vs k=none):=by
 unfold RKV at r;induction r with
 |nil=>exact .inr ⟨rfl,rfl⟩
 |@cons p q _ _ h r ih=>
  unfold Ao4 Ua at ih ⊢
  rw[find?_cons,find?_cons];by_cases e:p.1=k
  .have e':q.1=k:=h.1.symm.trans e;rw[decide_eq_true e,decide_eq_true e'];exact .inl ⟨_,_,rfl,rfl,h.2⟩
  .have e':¬ q.1=k:=fun z=>e (h.1.trans z);rw[decide_eq_false e,decide_eq_false e'];exact ih
theorem Jt {α β:Type} {Rel:List Addr->Hp->α->β->Prop} {w:α} {v:β} {Q:β->Hp->Prop} (h:Aw Θ Rel ρ H (.ok w S) Q E) (r:Rep Θ ρ S H) (q:Rel ρ H w v):Q v H:=
 h ρ H v (prefix_refl ρ) (Cy.refl ρ H) r q
theorem Beb (R:Rep Θ ρ S H) (hx:RV Θ ρ H x vx) (hy:RV Θ ρ H y vy) (h:Aw Θ (RV Θ) ρ H (eqD neg x y S) Q E) :
  ∃d e,DV H vx d/\DV H vy e/\SeqAt.shaped d=true/\SeqAt.shaped e=true/\Q (.bl (if neg then !PyData.eqv d e else PyData.eqv d e)) H:=by
 simp only[eqD] at h;split at h
 .rename_i d e e1 e2;split at h
  .rename_i hz;obtain⟨z1,z2⟩:=and_eq_true_iff.mp hz;exact⟨d,e,Uc R 16 _ _ _ hx e1,Uc R 16 _ _ _ hy e2,z1,z2,Jt h R (.bl _)⟩
  .exact(show False from h).elim
 .exact(show False from h).elim
theorem Bec (R:Rep Θ ρ S H) (hx:RV Θ ρ H x vx) (hy:RV Θ ρ H y vy) (h:Aw Θ (RV Θ) ρ H (eqW neg x y S) Q E) :
  (∃i j,vx=.str i/\vy=.str j/\Q (.bl (if neg then !(i==j) else i==j)) H)\/∃d e,DV H vx d/\DV H vy e/\SeqAt.shaped d=true/\SeqAt.shaped e=true/\Q (.bl (if neg then !PyData.eqv d e else PyData.eqv d e)) H:=by
 unfold eqW at h;split at h
 .cases hx;cases hy;exact .inl ⟨_,_,rfl,rfl,Jt h R (.bl _)⟩
 .exact .inr (Beb R hx hy h)
theorem Ao5 (hx:RV Θ ρ H x vx):Ao3 x=decide (vx=.non):=by
 cases hx <;> simp[Ao3]
theorem Bgp (R:Rep Θ ρ S H) (hx:RV Θ ρ H x vx) (hy:RV Θ ρ H y vy) (h:Aw Θ (RV Θ) ρ H (isW x y S) Q E):vy=.non/\Q (.bl (decide (vx=.non))) H:=by
 unfold isW at h;split at h
 .cases hy;rw[<-Ao5 hx];exact⟨rfl,h.now R (.bl _)⟩
 .exact(show False from h).elim
theorem Bgq (R:Rep Θ ρ S H) (hx:RV Θ ρ H x vx) (hy:RV Θ ρ H y vy) (h:Aw Θ (RV Θ) ρ H (inW x y S) Q E):∃i j,vx=.str i/\vy=.str j/\Q (.bl (!(Builtin.Str.occurrences j i 0 j.length 1).isEmpty)) H:=by
 unfold inW at h;split at h
 .cases hx;cases hy;exact⟨_,_,rfl,rfl,h.now R (.bl _)⟩
 .exact(show False from h).elim
end
section
theorem Alr:OpR X (compareOp .Gt) (fun x y H Q=>∃i j,x=.str i/\y=.str j/\Q (.bl (decide (j.cps.toList < i.cps.toList))) H):=by
 intro aa s σ H x y v u Q I rx ry h;obtain⟨i,j,rfl,rfl,q⟩:=h;obtain⟨t,rfl⟩:=rx;obtain⟨t',rfl⟩:=ry;exact PySem.P.gt_str (Sq I q rfl)
theorem Baf:OpR X (compareOp .Eq) (fun x y H Q=>∃i j,x=.str i/\y=.str j/\Q (.bl (i==j)) H):=by
 intro aa s σ H x y v u Q I rx ry h;obtain⟨i,j,rfl,rfl,q⟩:=h;obtain⟨t,rfl⟩:=rx;obtain⟨t',rfl⟩:=ry;exact eq_str (Sq I q rfl)
theorem Bag:OpR X (compareOp .NotEq) (fun x y H Q=>∃i j,x=.str i/\y=.str j/\Q (.bl (!(i==j))) H):=by
 intro aa s σ H x y v u Q I rx ry h;obtain⟨i,j,rfl,rfl,q⟩:=h;obtain⟨t,rfl⟩:=rx;obtain⟨t',rfl⟩:=ry;exact ne_str (Sq I q rfl)
end
def Jx:CmpOp->W->W->M W
 |.Lt=>Cop.fn .lt
 |.LtE=>Cop.fn .le
 |.Gt=>Cop.fn .gt
 |.GtE=>fun _ _=>bad
 |.Eq=>eqW false
 |.NotEq=>eqW true
 |.In=>inW
 |.NotIn=>fun _ _=>bad
 |.Is=>isW
 |.IsNot=>fun _ _=>bad
def Bf (op:CmpOp) (f g:De->M W):De->M W:=fun δ=>do let x<-f δ;let y<-g δ;Jx op x y
structure Bah (Θ:Th) (X:Cx) (op:CmpOp):Type where
 r:R2
 ok:OpR X (compareOp op) r
 by_:∀ρ S H x y vx vy Q E,Rep Θ ρ S H->RV Θ ρ H x vx->RV Θ ρ H y vy->Aw Θ (RV Θ) ρ H (Jx op x y S) Q E->r vx vy H Q
theorem Ao6:OpR X (compareOp op) (fun _ _ _ _=>False):=fun _ _ _ _ _ _ _ _ _ _ _ _ h=>h.elim
theorem Als (Θ:Th) (X:Cx) (hK:X.K=Θ.K) (hu:X.A.units+64 < cLine):∀op:CmpOp,Nonempty (Bah Θ X op)
 |.Lt=>⟨⟨_,Bc6.or Aky,fun ρ S H x y vx vy Q E R hx hy h=>Bab R hx hy h⟩⟩
 |.LtE=>⟨⟨_,Bc7.or Alh,fun ρ S H x y vx vy Q E R hx hy h=>Bab R hx hy h⟩⟩
 |.Gt=>⟨⟨_,Bc8.or Alr,fun ρ S H x y vx vy Q E R hx hy h=>Bab R hx hy h⟩⟩
 |.GtE=>⟨⟨_,Ao6,fun _ _ _ _ _ _ _ _ _ _ _ _ h=>h⟩⟩
 |.Eq=>⟨⟨_,Baf.or (Azl hu),fun ρ S H x y vx vy Q E R hx hy h=>Bec R hx hy h⟩⟩
 |.NotEq=>⟨⟨_,Bag.or (Azm hu),fun ρ S H x y vx vy Q E R hx hy h=>Bec R hx hy h⟩⟩
 |.In=>⟨⟨_,Akz,fun ρ S H x y vx vy Q E R hx hy h=>Bgq R hx hy h⟩⟩
 |.NotIn=>⟨⟨_,Ao6,fun _ _ _ _ _ _ _ _ _ _ _ _ h=>h⟩⟩
 |.Is=>⟨⟨_,Ay5,fun ρ S H x y vx vy Q E R hx hy h=>Bgp R hx hy h⟩⟩
 |.IsNot=>⟨⟨_,Ao6,fun _ _ _ _ _ _ _ _ _ _ _ _ h=>h⟩⟩
section
theorem Bed (hK:X.K=Θ.K) (hu:X.A.units+64 < cLine) (ha:WE X a (tF Θ E f)) (hb:WE X b (tF Θ E g)) (hm:behindInMarks op b=false):WE X (.Compare a [op] [b] pos) (tF Θ E (Bf op f g)):=by
 obtain⟨o⟩:=Als Θ X hK hu op;exact WE.weak (Bf5 o.ok ha hb hm) (O3 o.by_)
theorem Bai (hK:X.K=Θ.K) (hu:X.A.units+64 < cLine) (ha:WE X a (tF Θ E f)) (hb:WE X b (tF Θ E g)) (hm:behindInMarks op b=false):WT X (.Compare a [op] [b] pos) (tFb Θ E (Ay (Bf op f g))):=by
 obtain⟨o⟩:=Als Θ X hK hu op;exact Ahh (O3 o.by_) (Bf9 o.ok ha hb hm)
end
def Aag {α:Type}:Option α->M α
 |some a=>pure a
 |none=>bad
def ixW (ns:List Int) (x y:W):M W:=match x with
 |.str z=>match y with
  |.int i=>if z.length<=big then Aag ((atI z.cps.toList i).map fun c=>W.str ⟨#[c]⟩) else bad
  |_=>bad
 |.tup ws=>match y with
  |.int i=>Aag (atI ws i)
  |_=>bad
 |.scr=>match y with
  |.int i=>Aag ((atI ns i).map W.int)
  |_=>bad
 |.ref n=>fun S=>match S[n]? with
  |some (.lst ws)=>match y with
   |.int i=>Aag (atI ws i) S
   |_=>.bad
  |some (.dct kvs)=>match Aaf y with
   |some k=>Aag (Ao4 kvs k) S
   |none=>.bad
  |_=>.bad
 |_=>bad
def ixF (ns:List Int) (f g:De->M W):De->M W:=fun δ=>do let x<-f δ;let y<-g δ;ixW ns x y
section
theorem Auj (hu:X.A.units+1 < cLine):IxR X (fun x y H Q=>∃a v,x=.ref a/\Ag3 H a y (some v)/\Q v H):=by
 intro value slice aa s σ H x y v u Q I rx ry h hs;obtain⟨a,w,rfl,g,q⟩:=h;obtain rfl:v=Value.ref a:=rx;exact tail_any (Aee I g) PySem.F.slot_dict_getitem.lookup (Ak7 hu I g ry fun w' s3 I3 rw'=>⟨w,H,I3,rw',q⟩) hs
end
section
theorem Rc {α β:Type} {Rel:List Addr->Hp->α->β->Prop} {Q:β->Hp->Prop} {o:Option α} (h:Aw Θ Rel ρ H (Aag o S) Q E):∃w,o=some w/\Aw Θ Rel ρ H ((pure w:M α) S) Q E:=by
 cases o with
 |none=>exact(show False from h).elim
 |some w=>exact⟨w,rfl,h⟩
theorem RVs.at {i:Int} (r:RVs Θ ρ H ws vs) (h:atI ws i=some w):∃v,atI vs i=some v/\RV Θ ρ H w v:=by
 unfold atI at h ⊢
 rw[<-r.length];cases e:ixN ws.length i with
 |none=>rw[e] at h;cases h
 |some j=>
  rw[e] at h;exact r.get h
theorem Auk {α β:Type} (f:α->β) (xs:List α) (i:Int):atI (xs.map f) i=(atI xs i).map f:=by
 unfold atI;rw[length_map];cases ixN xs.length i with
 |none=>rfl
 |some j=>exact getElem?_map
theorem Bgr (R:Rep Θ ρ S H) (hx:RV Θ ρ H x vx) (hy:RV Θ ρ H y vy) (h:Aw Θ (RV Θ) ρ H (ixW Θ.ns x y S) Q E) :
  rIx Θ.K vx vy H Q\/∃a v,vx=.ref a/\Ag3 H a vy (some v)/\Q v H:=by
 cases hx with
 |str z=>
  cases hy <;> try exact(show False from h).elim
  obtain⟨hz,h⟩:=Hd h;obtain⟨w,e,h⟩:=Rc h;obtain⟨c,e1,rfl⟩:=map_eq_some_iff.mp e;exact .inl (.inr (.inr ⟨_,_,c,rfl,rfl,Km hz,e1,h.now R (.str _)⟩))
 |tup h1 r1=>
  cases hy <;> try exact(show False from h).elim
  obtain⟨w,e,h⟩:=Rc h;obtain⟨v,e1,rv⟩:=r1.at e;exact .inl (.inr (.inl ⟨_,_,_,v,rfl,rfl,SqT.of h1,e1,h.now R rv⟩))
 |scr hs=>
  cases hy <;> try exact(show False from h).elim
  obtain⟨w,e,h⟩:=Rc h;obtain⟨c,e1,rfl⟩:=map_eq_some_iff.mp e;exact .inl (.inl ⟨_,_,_,.int c,rfl,rfl,hs.sq,by rw[Auk,e1];rfl,h.now R (.int _)⟩)
 |@ref n a hn=>
  simp only[ixW] at h;split at h
  .rename_i ws e1;obtain⟨a',ha',vs,h1,r1⟩:=R.get e1;rw[hn] at ha';cases ha';cases hy <;> try exact(show False from h).elim
   obtain⟨w,e,h⟩:=Rc h;obtain⟨v,e1,rv⟩:=r1.at e;exact .inl (.inl ⟨_,_,_,v,rfl,rfl,.inl (.inl h1),e1,h.now R rv⟩)
  .rename_i kvs e1;obtain⟨a',ha',vs,h1,r1⟩:=R.get e1;rw[hn] at ha';cases ha';split at h
   .rename_i k ek;rw[Acq hy ek];obtain⟨w,e,h⟩:=Rc h;rcases Aui r1 k with ⟨w',v,e2,e3,rv⟩|⟨e2,e3⟩
    .rw[e] at e2;cases e2;exact .inr ⟨a,v,rfl,e3 ▸ Ag3.k h1,h.now R rv⟩
    .rw[e] at e2;cases e2
   .exact(show False from h).elim
  .exact(show False from h).elim
 |_=>exact(show False from h).elim
end
section
theorem Bgs (hK:X.K=Θ.K) (hu:X.A.units+64 < cLine) (ha:WE X a (tF Θ E f)) (hb:WE X b (tF Θ E g)) (hs:Tz b):WE X (.Subscript a b pos) (tF Θ E (ixF Θ.ns f g)):=
 WE.weak (kix (Azd.or (Auj (by omega))) ha hb hs) (O3 fun ρ S H x y vx vy Q E R hx hy h=>by rw[hK];exact Bgr R hx hy h)
end
section
open HT in
theorem Alu {lo hi:Option Int} (ht:IsTup s.heap t its) (hs:s.heap.IsSliceOf sl vl vu .none) (pl:IsPart vl lo) (pu:IsPart vu hi)
  (hw:sIx its.size 0 lo=0/\sIx its.size its.size hi=its.size) (h:Q (.ref t) s):wpAny (model prog w) A (getItem (.ref t) (.ref sl)) Q E s:=by
 obtain⟨os,hos,hcs,hds⟩:=id hs;have hTs:s.TypeIs (.ref sl) "slice":=⟨os,hos,hcs⟩;unfold getItem
 try with_reducible refine wpAny_holding ?_
 first|refine wpAny_bind (wpAny_pure ?_)|skip
 refine wpAny_bind (wpAny_sequenceKey ht.typeIs (by decide) ?_)
 refine wpAny_bind (wpAny_callSpecial?_slot (name:=Str.ofString "__getitem__") ht.typeIs PyProof.Rows.slot_tuple_getitem
  (wpAny_call_entry PyProof.Rows.slot_tuple_getitem ht.typeIs entry_tuple_getitem ?_ (args_tuple_getitem _ _)))
 show wpAny _ _ (Builtin.Tuple.tupleItemsOf (.ref t) >>= _) _ _ s;refine wpAny_bind (tupleItemsOf_ ht ?_);refine wpAny_bind (wpAny_typeOf hTs ?_);rw[if_pos (by decide)]
 refine wpAny_bind (Mr hs pl pu ?_);show wpAny _ _ (if (((sIx its.size 0 lo:Nat):Int)==0&&(1:Int)==1&&(sIx its.size its.size hi - sIx its.size 0 lo)==its.size)=true then _ else _) _ _ s
 rw[if_pos (by rw[hw.1,hw.2];simp)]
 unfold Builtin.Tuple.tupleIsExact;refine wpAny_bind (wpAny_bind (wpAny_typeOf ht.typeIs (wpAny_pure ?_)));rw[if_pos (by decide)]
 first
  |exact wpAny_bind (wpAny_rule (wpAny_pure ⟨_,rfl,wpAny_pure h⟩))
  |exact wpAny_bind (wpAny_pure (wpAny_pure ⟨_,rfl,wpAny_pure h⟩))
  |exact wpAny_pure ⟨_,rfl,wpAny_pure h⟩
def Axx (K:PySem.W.Frag):V->Option Int->Option Int->Hp->VK->Prop:=fun x lo hi H Q=>∃a xs,x=.ref a/\SqT K H a xs/\HT.sIx xs.length 0 lo=0/\HT.sIx xs.length xs.length hi=xs.length/\Q (.ref a) H
theorem Aul:SlR X (Axx X.K):=by
 intro aa s σ H x v vl vu lo hi sl Q I rx hs pl pu h;obtain⟨a,xs,rfl,hx,h1,h2,q⟩:=h;cases rx;obtain⟨its,r,ht,hz⟩:=I.tuple hx;have hlen:its.toArray.size=xs.length:=by rw[size_toArray];exact r.length.symm
 refine⟨"tuple",_,PyProof.Rows.slot_tuple_getitem.lookup,ht.typeIs,Alu ht hs pl pu (by rw[hlen];exact⟨h1,h2⟩) ⟨.ref a,H,I,rfl,q⟩⟩
end
def Ael (ws:List W) (lo hi:Option Int):List W:=(ws.drop (HT.sIx ws.length 0 lo)).take (HT.sIx ws.length ws.length hi - HT.sIx ws.length 0 lo)
def slW (ns:List Int) (x:W) (lo hi:Option Int):M W:=match x with
 |.str z=>if z.length<=big then pure (.str (Txt.slice z lo hi)) else bad
 |.tup ws=>pure (.tup (Ael ws lo hi))
 |.scr=>Ce (Ael (ns.map W.int) lo hi)
 |.ref n=>fun S=>match S[n]? with
  |some (.lst ws)=>Ce (Ael ws lo hi) S
  |_=>.bad
 |_=>bad
def Cg (f:De->M W):De->M (Option Int):=fun δ=>do let x<-f δ;match x with
 |.int i=>pure (some i)
 |_=>bad
def Bs:De->M (Option Int):=fun _=>pure none
def slF (ns:List Int) (f:De->M W) (l h:De->M (Option Int)):De->M W:=fun δ=>do let x<-f δ;let lo<-l δ;let hi<-h δ;slW ns x lo hi
def tFo (Θ:Th) (E:L2.St->XK) (f:De->M (Option Int)):TO:=fun σ H Q=>∃ρ S δ,Rep Θ ρ S H/\RSl Θ ρ H δ σ/\Aw Θ (fun _ _ a b=>a=b) ρ H (f δ S) Q (E σ)
section
theorem RVs.drop (r:RVs Θ ρ H ws vs):∀n,RVs Θ ρ H (ws.drop n) (vs.drop n)
 |0=>r
 |n+1=>by
  cases r with
  |nil=>exact .nil
  |cons h r=>exact r.drop n
theorem RVs.take (r:RVs Θ ρ H ws vs):∀n,RVs Θ ρ H (ws.take n) (vs.take n)
 |0=>.nil
 |n+1=>by
  cases r with
  |nil=>exact .nil
  |cons h r=>exact .cons h (r.take n)
theorem RVs.cut (r:RVs Θ ρ H ws vs) (lo hi:Option Int):RVs Θ ρ H (Ael ws lo hi) (Aaa vs lo hi):=by
 unfold Ael Aaa;rw[r.length];exact(r.drop _).take _
theorem Yl:∀ns:List Int,RVs Θ ρ H (ns.map W.int) (ns.map V.int)
 |[]=>.nil
 |n::ns=>.cons (.int n) (Yl ns)
theorem Rf (R:Rep Θ ρ S H) (r:RVs Θ ρ H ws vs) (h:Aw Θ (RV Θ) ρ H (Ce ws S) Q E):vs.length<=big/\∀p,H p=none->Q (.ref p) (upd H p (.lst vs)):=by
 simp only[Ce] at h;by_cases hz:ws.length<=big
 .rw[if_pos hz] at h;refine⟨by rw[<-r.length];exact hz,fun p hp=>h (ρ ++ [p]) _ _ (prefix_append _ _) (Cm hp) (R.alloc hp ⟨_,Bm,r.mono (prefix_append _ _) (Cm hp)⟩) (.ref ?_)⟩
  rw[<-R.len];exact Li
 .rw[if_neg hz] at h;exact h.elim
theorem Vf (R:Rep Θ ρ S H) (r:RVs Θ ρ H ws vs) (h:Aw Θ (RV Θ) ρ H ((pure (.tup ws):M W) S) Q E):∀p,H p=none->Q (.ref p) (upd H p (.tup vs)):=fun p hp=>
 h ρ _ _ (prefix_refl _) (Cm hp) (R.beside hp) (.tup Bm (r.mono (prefix_refl _) (Cm hp)))
theorem Aum {lo hi:Option Int} (h1:HT.sIx ws.length 0 lo=0) (h2:HT.sIx ws.length ws.length hi=ws.length):Aaa ws lo hi=ws:=by
 unfold Aaa;rw[h1,h2,drop_zero,Nat.sub_zero,take_length]
theorem Bgt {lo hi:Option Int} (R:Rep Θ ρ S H) (hx:RV Θ ρ H x vx) (h:Aw Θ (RV Θ) ρ H (slW Θ.ns x lo hi S) Q E) :
  (Bdf Θ.K vx lo hi H Q\/Axx Θ.K vx lo hi H Q)\/(Bdk Θ.K vx lo hi H Q\/∃z,vx=.str z/\z.length<=sizeLine/\Q (.str (Txt.slice z lo hi)) H):=by
 cases hx with
 |str z=>
  obtain⟨hz,h⟩:=Hd h;exact .inr (.inr ⟨z,rfl,Km hz,h.now R (.str _)⟩)
 |@tup a ws vs h1 r1=>
  have r2:=r1.cut lo hi;by_cases e:HT.sIx vs.length 0 lo=0/\HT.sIx vs.length vs.length hi=vs.length
  .refine .inl (.inr ⟨a,vs,rfl,SqT.of h1,e.1,e.2,h.now R (.tup h1 ?_)⟩);have r3:=r2;rw[Aum e.1 e.2] at r3;exact r3
  .exact .inl (.inl ⟨a,vs,rfl,SqT.of h1,e,Vf R r2 h⟩)
 |scr hs=>exact .inr (.inl ⟨_,_,rfl,hs.sq,(Rf R ((Yl _).cut lo hi) h).2⟩)
 |@ref n a hn=>
  simp only[slW] at h;split at h
  .rename_i ws e1;obtain⟨a',ha',vs,h1,r1⟩:=R.get e1;rw[hn] at ha';cases ha';exact .inr (.inl ⟨_,_,rfl,.inl (.inl h1),(Rf R (r1.cut lo hi) h).2⟩)
  .exact(show False from h).elim
 |_=>exact(show False from h).elim
end
section
theorem WO.weak (h:WO X o t) (k:∀σ H Q,t' σ H Q->t σ H Q):WO X o t':=⟨fun aa s σ H Q I q=>h.un aa s σ H Q I (k σ H Q q)⟩
theorem Ao7:WO X none (tFo Θ E Bs):=WO.weak Atx fun σ H Q ⟨ρ,S,δ,R,sl,q⟩=>q.now R rfl
theorem Baj (ha:WE X a (tF Θ E f)):WO X (some a) (tFo Θ E (Cg f)):=WO.weak (Aty ha) fun σ H Q ⟨ρ,S,δ,R,sl,q⟩=>by
 refine⟨ρ,S,δ,R,sl,(Aw.seq (Rel:=RV Θ) q).mono ?_⟩;rintro v H1 ⟨ρ1,S1,w,p1,t1,R1,rv,q1⟩;cases rv <;> first|exact(show False from q1).elim|skip
 exact⟨_,rfl,Aw.now (Rel:=fun _ _ a b=>a=b) q1 R1 rfl⟩
theorem Aun {lo hi:Option Expr} {l u:De->M (Option Int)} {p2:Pos} (hK:X.K=Θ.K) (ha:WE X a (tF Θ E f)) (hl:WO X lo (tFo Θ E l)) (hu:WO X hi (tFo Θ E u)):WE X (.Subscript a (.Slice lo hi none p2) pos) (tF Θ E (slF Θ.ns f l u)):=
 WE.weak (Azt ((Azc.or Aul).or (Ata.or Azr)) ha hl hu) fun σ H Q ⟨ρ,S,δ,R,sl,q⟩=>by
  refine⟨ρ,S,δ,R,sl,(Aw.seq (Rel:=RV Θ) q).mono ?_⟩;rintro v H1 ⟨ρ1,S1,w,p1,t1,R1,rv,q1⟩;refine⟨ρ1,S1,δ,R1,sl.mono p1 t1,(Aw.seq (Rel:=fun _ _ a b=>a=b) q1).mono ?_⟩;rintro lo' H2 ⟨ρ2,S2,_,p2,t2,R2,rfl,q2⟩;refine⟨ρ2,S2,δ,R2,(sl.mono p1 t1).mono p2 t2,(Aw.seq (Rel:=fun _ _ a b=>a=b) q2).mono ?_⟩;rintro hi' H3 ⟨ρ3,S3,_,p3,t3,R3,rfl,q3⟩;rw[hK];exact Bgt R3 ((rv.mono p2 t2).mono p3 t3) q3
end
def Dd (ns:List Int):List W->M W
 |[.str z]=>if z.length<=big then pure (.int z.length) else bad
 |[.tup ws]=>pure (.int ws.length)
 |[.scr]=>pure (.int ns.length)
 |[.ref n]=>fun S=>match S[n]? with
  |some (.lst ws)=>.ok (.int ws.length) S
  |some (.dct kvs)=>.ok (.int kvs.length) S
  |_=>.bad
 |_=>bad
def Ao8:List W->M W
 |[.str x]=>if x.length=1 then pure (.int (x.cps.getD 0 0:Nat)) else bad
 |_=>bad
def Ao9:List W->M W
 |[.int i,.int j]=>pure (.int (if j > i then j else i))
 |_=>bad
def Alv:List W->M W
 |[.int i,.int j]=>pure (.int (if j < i then j else i))
 |_=>bad
def asInt:W->Option Int
 |.int i=>some i
 |_=>none
def Auo:W->Option Bool
 |.bl i=>some i
 |_=>none
def Aja:W->Option Str
 |.str i=>some i
 |_=>none
def Acr:List W->M W
 |[.ref n]=>fun S=>match S[n]? with
  |some (.lst ws)=>match Ex asInt ws with
   |some is=>.ok (.int is.sum) S
   |none=>.bad
  |_=>.bad
 |_=>bad
def Ol:List W->M W
 |[.ref n]=>fun S=>match S[n]? with
  |some (.lst ws)=>match Ex Auo ws with
   |some is=>.ok (.bl (is.all id)) S
   |none=>.bad
  |_=>.bad
 |_=>bad
def Et (ns:List Int):List W->M W
 |[.tup ws]=>pure (.tup ws)
 |[.scr]=>pure (.tup (ns.map W.int))
 |[.ref n]=>fun S=>match S[n]? with
  |some (.lst ws)=>.ok (.tup ws) S
  |_=>.bad
 |_=>bad
def chars (z:Str):List W:=z.cps.toList.map fun c=>W.str ⟨#[c]⟩
def Aem:List W->M W
 |[.str z]=>if z.length<=big then Ce (chars z) else bad
 |_=>bad
def Vg:Key×W->Option Str
 |(.inr s,_)=>some s
 |_=>none
def Rg:List W->M W
 |[.ref n]=>fun S=>match S[n]? with
  |some (.dct kvs)=>if kvs.length < 64 then match Ex Vg kvs with
    |some ss=>Ce ((Yg ss).map W.str) S
    |none=>.bad
   else .bad
  |_=>.bad
 |_=>bad
section
theorem Ud {α:Type} {f:W->Option α} {k:α->V} (hf:∀w v a,RV Θ ρ H w v->f w=some a->v=k a):∀{ws:List W} {vs:List V} {is:List α},RVs Θ ρ H ws vs->Ex f ws=some is->vs=is.map k
 |_,_,_,.nil,e=>by cases e;rfl
 |w::ws,_,is,.cons h r,e=>by
  rw[Ex] at e;cases e1:f w with
  |none=>rw[e1] at e;cases e
  |some d=>
   rw[e1] at e;cases e2:Ex f ws with
   |none=>rw[e2] at e;cases e
   |some es=>
    rw[e2] at e;cases e;rw[hf _ _ _ h e1,Ud hf r e2];rfl
theorem Apa (w:W) (v:V) (i:Int) (h:RV Θ ρ H w v) (e:asInt w=some i):v=.int i:=by
 cases h <;> simp only[asInt,Option.some.injEq,reduceCtorEq] at e
 subst e;rfl
theorem Aup (w:W) (v:V) (i:Bool) (h:RV Θ ρ H w v) (e:Auo w=some i):v=.bl i:=by
 cases h <;> simp only[Auo,Option.some.injEq,reduceCtorEq] at e
 subst e;rfl
theorem Apb (w:W) (v:V) (i:Str) (h:RV Θ ρ H w v) (e:Aja w=some i):v=.str i:=by
 cases h <;> simp only[Aja,Option.some.injEq,reduceCtorEq] at e
 subst e;rfl
theorem paired_len {α β:Type} {F:α->β->Prop} {l:List α} {m:List β} (r:Paired F l m):l.length=m.length:=by
 induction r with
 |nil=>rfl
 |cons _ _ ih=>rw[length_cons,length_cons,ih]
theorem Bgu (R:Rep Θ ρ S H) (r:RVs Θ ρ H ws vs) (h:Aw Θ (RV Θ) ρ H (Dd Θ.ns ws S) Q E) :
  (∃x n,vs=[x]/\Bc9 Θ.K x H n/\Q (.int n) H)\/∃a kvs,vs=[V.ref a]/\H a=some (.dK kvs)/\Q (.int kvs.length) H:=by
 cases r with
 |nil=>exact(show False from h).elim
 |cons h1 r=>
  cases r with
  |cons _ _=>cases h1 <;> exact(show False from h).elim
  |nil=>
   cases h1 with
   |str z=>
    obtain⟨hz,h⟩:=Hd h;exact .inl ⟨_,_,rfl,⟨Km hz,rfl⟩,h.now R (.int _)⟩
   |tup h1 r1=>
    refine .inl ⟨_,_,rfl,.inr ⟨_,SqT.of h1,rfl⟩,?_⟩;rw[<-r1.length];exact h.now R (.int _)
   |scr hs=>
    refine .inl ⟨_,_,rfl,.inl ⟨_,hs.sq,rfl⟩,?_⟩;rw[length_map];exact h.now R (.int _)
   |@ref n a hn=>
    simp only[Dd] at h;split at h
    .rename_i us e1;obtain⟨a',ha',zs,h2,r2⟩:=R.get e1;rw[hn] at ha';cases ha';refine .inl ⟨_,_,rfl,.inl ⟨_,.inl (.inl h2),rfl⟩,?_⟩;rw[<-r2.length];exact Jt h R (.int _)
    .rename_i kvs e1;obtain⟨a',ha',zs,h2,r2⟩:=R.get e1;rw[hn] at ha';cases ha';refine .inr ⟨_,_,rfl,h2,?_⟩;have e:kvs.length=zs.length:=paired_len r2;rw[<-e];exact Jt h R (.int _)
    .exact(show False from h).elim
   |_=>exact(show False from h).elim
theorem Bgv (R:Rep Θ ρ S H) (r:RVs Θ ρ H ws vs) (h:Aw Θ (RV Θ) ρ H (Ao8 ws S) Q E):∃x,vs=[.str x]/\x.length=1/\Q (.int (x.cps.getD 0 0:Nat)) H:=by
 cases r with
 |nil=>exact(show False from h).elim
 |cons h1 r=>
  cases r with
  |cons _ _=>cases h1 <;> exact(show False from h).elim
  |nil=>
   cases h1 <;> try exact(show False from h).elim
   obtain⟨hz,h⟩:=Hd h;exact⟨_,rfl,hz,h.now R (.int _)⟩
theorem Bgw (R:Rep Θ ρ S H) (r:RVs Θ ρ H ws vs) (h:Aw Θ (RV Θ) ρ H (Ao9 ws S) Q E):∃i j,vs=[.int i,.int j]/\Q (.int (if j > i then j else i)) H:=by
 unfold Ao9 at h;split at h
 .cases r with
  |cons h1 r=>
   cases r with
   |cons h2 r=>
    cases r;cases h1;cases h2;exact⟨_,_,rfl,h.now R (.int _)⟩
 .exact(show False from h).elim
theorem Bgx (R:Rep Θ ρ S H) (r:RVs Θ ρ H ws vs) (h:Aw Θ (RV Θ) ρ H (Alv ws S) Q E):∃i j,vs=[.int i,.int j]/\Q (.int (if j < i then j else i)) H:=by
 unfold Alv at h;split at h
 .cases r with
  |cons h1 r=>
   cases r with
   |cons h2 r=>
    cases r;cases h1;cases h2;exact⟨_,_,rfl,h.now R (.int _)⟩
 .exact(show False from h).elim
theorem Bgy (R:Rep Θ ρ S H) (r:RVs Θ ρ H ws vs) (h:Aw Θ (RV Θ) ρ H (Acr ws S) Q E):∃p,∃ns:List Int,vs=[.ref p]/\H p=some (.lst (ns.map V.int))/\Q (.int ns.sum) H:=by
 cases r with
 |nil=>exact(show False from h).elim
 |cons h1 r=>
  cases r with
  |cons _ _=>cases h1 <;> exact(show False from h).elim
  |nil=>
   cases h1 <;> try exact(show False from h).elim
   rename_i n a hn;simp only[Acr] at h;split at h
   .rename_i us e1;split at h
    .rename_i is e2;obtain⟨a',ha',zs,h2,r2⟩:=R.get e1;rw[hn] at ha';cases ha';rw[Ud Apa r2 e2] at h2;exact⟨_,is,rfl,h2,Jt h R (.int _)⟩
    .exact(show False from h).elim
   .exact(show False from h).elim
theorem Bgz (R:Rep Θ ρ S H) (r:RVs Θ ρ H ws vs) (h:Aw Θ (RV Θ) ρ H (Ol ws S) Q E):∃p,∃bs:List Bool,vs=[.ref p]/\H p=some (.lst (bs.map V.bl))/\Q (.bl (bs.all id)) H:=by
 cases r with
 |nil=>exact(show False from h).elim
 |cons h1 r=>
  cases r with
  |cons _ _=>cases h1 <;> exact(show False from h).elim
  |nil=>
   cases h1 <;> try exact(show False from h).elim
   rename_i n a hn;simp only[Ol] at h;split at h
   .rename_i us e1;split at h
    .rename_i is e2;obtain⟨a',ha',zs,h2,r2⟩:=R.get e1;rw[hn] at ha';cases ha';rw[Ud Aup r2 e2] at h2;exact⟨_,is,rfl,h2,Jt h R (.bl _)⟩
    .exact(show False from h).elim
   .exact(show False from h).elim
theorem Bak (R:Rep Θ ρ S H) (r:RVs Θ ρ H ws vs) (h:Aw Θ (RV Θ) ρ H (Et Θ.ns ws S) Q E) :
  ∃p ys,vs=[.ref p]/\((SqL Θ.K H p ys/\∀l,H l=none->Q (.ref l) (upd H l (.tup ys)))\/(SqT Θ.K H p ys/\Q (.ref p) H)):=by
 cases r with
 |nil=>exact(show False from h).elim
 |cons h1 r=>
  cases r with
  |cons _ _=>cases h1 <;> exact(show False from h).elim
  |nil=>
   cases h1 with
   |tup h1 r1=>exact⟨_,_,rfl,.inr ⟨SqT.of h1,h.now R (.tup h1 r1)⟩⟩
   |scr hs=>exact⟨_,_,rfl,.inl ⟨hs.sq,Vf R (Yl _) h⟩⟩
   |@ref n a hn=>
    simp only[Et] at h;split at h
    .rename_i us e1;obtain⟨a',ha',zs,h2,r2⟩:=R.get e1;rw[hn] at ha';cases ha';exact⟨_,_,rfl,.inl ⟨.inl (.inl h2),Vf R r2 h⟩⟩
    .exact(show False from h).elim
   |_=>exact(show False from h).elim
theorem Ym:∀ss:List Str,RVs Θ ρ H (ss.map W.str) (ss.map V.str)
 |[]=>.nil
 |s::ss=>.cons (.str s) (Ym ss)
theorem Alw (z:Str):RVs Θ ρ H (chars z) (z.cps.toList.map fun c=>V.str ⟨#[c]⟩):=by
 have h:=Ym (Θ:=Θ) (ρ:=ρ) (H:=H) (z.cps.toList.map fun c=>(⟨#[c]⟩:Str));rw[map_map,map_map] at h;exact h
theorem Bee (R:Rep Θ ρ S H) (r:RVs Θ ρ H ws vs) (h:Aw Θ (RV Θ) ρ H (Aem ws S) Q E):∃z:Str,vs=[.str z]/\z.length<=sizeLine/\∀l,H l=none->Q (.ref l) (upd H l (.lst (z.cps.toList.map fun c=>V.str ⟨#[c]⟩))):=by
 cases r with
 |nil=>exact(show False from h).elim
 |cons h1 r=>
  cases r with
  |cons _ _=>cases h1 <;> exact(show False from h).elim
  |nil=>
   cases h1 with
   |str z=>
    simp only[Aem] at h;split at h
    .rename_i hz;exact⟨z,rfl,Km hz,(Rf R (Alw z) h).2⟩
    .exact(show False from h).elim
   |_=>exact(show False from h).elim
theorem keys_str:∀{kvs:List (Key×W)} {zs:List (Key×V)} {ss:List Str},RKV Θ ρ H kvs zs->Ex Vg kvs=some ss->zs.map (·.1)=ss.map Sum.inr:=by
 intro kvs zs ss r;unfold RKV at r;induction r generalizing ss with
 |nil=>intro h;cases h;rfl
 |@cons a b l m h _ ih=>
  intro e;unfold Ex at e;obtain⟨k,w⟩:=a;cases k with
  |inl i=>simp only[Vg] at e;cases e
  |inr s=>
   simp only[Vg] at e;cases e2:Ex Vg l with
   |none=>rw[e2] at e;cases e
   |some ys=>
    rw[e2] at e;cases e;have hk:=h.1;simp only[map_cons,ih e2,<-hk]
theorem Auq (R:Rep Θ ρ S H) (r:RVs Θ ρ H ws vs) (h:Aw Θ (RV Θ) ρ H (Rg ws S) Q E) :
  ∃p kvs,vs=[.ref p]/\H p=some (.dK kvs)/\kvs.length < 64/\∃ss:List Str,kvs.map (·.1)=ss.map Sum.inr/\∀q,H q=none->Q (.ref q) (upd H q (.lst ((Yg ss).map V.str))):=by
 cases r with
 |nil=>exact(show False from h).elim
 |cons h1 r=>
  cases r with
  |cons _ _=>cases h1 <;> exact(show False from h).elim
  |nil=>
   cases h1 <;> try exact(show False from h).elim
   rename_i n a hn;simp only[Rg] at h;split at h
   .rename_i us e1;obtain⟨a',ha',zs,h2,r2⟩:=R.get e1;rw[hn] at ha';cases ha';split at h
    .rename_i hl;have lz:zs.length < 64:=by have:us.length=zs.length:=paired_len r2;omega
     split at h
     .rename_i is e2;exact⟨_,_,rfl,h2,lz,is,keys_str r2 e2,(Rf R (Ym _) h).2⟩
     .exact(show False from h).elim
    .exact(show False from h).elim
   .exact(show False from h).elim
end
theorem Aen:∀{xs:List V} {us:List Value},xs.length=us.length->(∀(j:Nat) (v:Value),us[j]?=some v->∃x,xs[j]?=some x/\RelV x v)->Vals xs us
 |[],[],_,_=>.nil
 |x::xs,u::us,hl,h=>by
  obtain⟨y,e,r⟩:=h 0 u rfl;cases (show some x=some y from e);exact .cons r (Aen (Nat.succ.inj hl) fun j v q=>h (j+1) v q)
 |[],_::_,hl,_=>by cases hl
 |_::_,[],hl,_=>by cases hl
theorem Ahi (hc:X.calm=true):Hh X (.type "list") (fun xs H Q=>∃z:Str,xs=[.str z]/\z.length<=sizeLine/\∀l,H l=none->Q (.ref l) (upd H l (.lst (z.cps.toList.map fun c=>V.str ⟨#[c]⟩)))):=by
 intro aa s σ H xs us Q I r h;obtain⟨z,rfl,hz,q⟩:=h;obtain⟨u,rfl,rx⟩:=vals1 r;obtain⟨t,rfl⟩:=rx;refine call_list_str (I.ok.hd hc) z t (hn:=hz) fun h' tk acc' c' kp e hi=>?_;have r':Vals (z.cps.toList.map fun c=>V.str ⟨#[c]⟩) acc'.toList:=by
  refine Aen (by rw[length_map,length_toList,length_toList,hi.1]) fun j v hv=>?_
  obtain⟨c,u,hc,rfl⟩:=hi.2 j v (by rw[<-getElem?_toList];exact hv)
  exact⟨.str ⟨#[c]⟩,by rw[getElem?_map,getElem?_toList,hc];rfl,u,rfl⟩
 exact⟨.ref s.heap.objs.size,_,I.laid (t':=tk) kp (le_refl _) (show Dn X.prog X.w _ h' _ (.lst _) from ⟨by rw[length_map,length_toList];exact hz,acc'.toList,c',r',by rw[Array.toArray_toList];exact e⟩),rfl,q _ (I.hok.fresh (le_refl _))⟩
def Aur (ns:List Int) (x:Str):Option (List W->M W):=
 if x="len" then some (Dd ns) else if x="ord" then some Ao8 else if x="max" then some Ao9 else if x="min" then some Alv
 else if x="sum" then some Acr else if x="all" then some Ol else if x="sorted" then some Rg else none
def Aus (ns:List Int) (x:Str):Option (List W->M W):=if x="tuple" then some (Et ns) else if x="list" then some Aem else none
structure Apc (Θ:Th) (X:Cx) (v:Value) (g:List W->M W) where
 r:List V->Hp->VK->Prop
 ok:Hh X v r
 by_:∀ρ S H ws vs Q E,Rep Θ ρ S H->RVs Θ ρ H ws vs->Aw Θ (RV Θ) ρ H (g ws S) Q E->r vs H Q
theorem Aut (hK:X.K=Θ.K) (hc:X.calm=true) (h:Aur Θ.ns x=some g):∃id,bootBuiltins x=some (.builtin id)/\Nonempty (Apc Θ X (.builtin id) g):=by
 unfold Aur at h;split at h
 .rename_i e;subst e;cases h;exact⟨"len",by kernel_rfl,⟨⟨_,Anx.or Alb,fun ρ S H ws vs Q E R r h=>by rw[hK];exact Bgu R r h⟩⟩⟩
 split at h
 .rename_i e;subst e;cases h;exact⟨"ord",by kernel_rfl,⟨⟨_,Anw,fun ρ S H ws vs Q E R r h=>Bgv R r h⟩⟩⟩
 split at h
 .rename_i e;subst e;cases h;exact⟨"max",by kernel_rfl,⟨⟨_,Ak0 hc,fun ρ S H ws vs Q E R r h=>Bgw R r h⟩⟩⟩
 split at h
 .rename_i e;subst e;cases h;exact⟨"min",by kernel_rfl,⟨⟨_,Ak1 hc,fun ρ S H ws vs Q E R r h=>Bgx R r h⟩⟩⟩
 split at h
 .rename_i e;subst e;cases h;exact⟨"sum",by kernel_rfl,⟨⟨_,Aoo hc,fun ρ S H ws vs Q E R r h=>Bgy R r h⟩⟩⟩
 split at h
 .rename_i e;subst e;cases h;exact⟨"all",by kernel_rfl,⟨⟨_,Aol hc,fun ρ S H ws vs Q E R r h=>Bgz R r h⟩⟩⟩
 split at h
 .rename_i e;subst e;cases h;exact⟨"sorted",by kernel_rfl,⟨⟨_,Ack hc,fun ρ S H ws vs Q E R r h=>Auq R r h⟩⟩⟩
 .cases h
theorem Auu (hK:X.K=Θ.K) (hc:X.calm=true) (h:Aus Θ.ns x=some g):∃T,bootBuiltins x=some (.type T)/\Nonempty (Apc Θ X (.type T) g):=by
 unfold Aus at h;split at h
 .rename_i e;subst e;cases h;exact⟨"tuple",by kernel_rfl,⟨⟨_,Aac,fun ρ S H ws vs Q E R r h=>by rw[hK];exact Bak R r h⟩⟩⟩
 split at h
 .rename_i e;subst e;cases h;exact⟨"list",by kernel_rfl,⟨⟨_,Ahi hc,fun ρ S H ws vs Q E R r h=>Bee R r h⟩⟩⟩
 .cases h
section
theorem Bg0 (hK:X.K=Θ.K) (hc:X.calm=true) (hx:Aur Θ.ns x=some fn) (hm:X.mg x=none) (ha:WA X (e::es) (tFs Θ E gs)) (hg:X.env.kindOf x=some .globalImplicit) (hn:decide (x=("__name__":Str))=false) (hdb:(x==("__debug__":Str))=false)
  (he:starEach (e::es) X.env=(false,eval e X.env)::starEach es X.env) (hpl:(backTo pos (starEach es X.env)).any (·.1)=false):WE X (.Call (.Name x p) (e::es) [] pos) (tF Θ E (Ae fn gs)):=by
 obtain⟨id,hv,⟨o⟩⟩:=Aut (X:=X) hK hc hx;refine WE.weak (kbi o.ok hm hv ha hg hn hdb he hpl) fun σ H Q ⟨ρ,S,δ,R,sl,q⟩=>?_;refine⟨ρ,S,δ,R,sl,(Aw.seq (Rel:=RVs Θ) q).mono ?_⟩;rintro vs H1 ⟨ρ1,S1,ws,p1,t1,R1,rvs,q1⟩;exact o.by_ ρ1 S1 H1 ws vs Q (E σ) R1 rvs q1
theorem Bg1 (hK:X.K=Θ.K) (hc:X.calm=true) (hx:Aus Θ.ns x=some fn) (hm:X.mg x=none) (ha:WA X (e::es) (tFs Θ E gs)) (hg:X.env.kindOf x=some .globalImplicit) (hn:decide (x=("__name__":Str))=false) (hdb:(x==("__debug__":Str))=false)
  (he:starEach (e::es) X.env=(false,eval e X.env)::starEach es X.env) (hpl:(backTo pos (starEach es X.env)).any (·.1)=false):WE X (.Call (.Name x p) (e::es) [] pos) (tF Θ E (Ae fn gs)):=by
 obtain⟨T,hv,⟨o⟩⟩:=Auu (X:=X) hK hc hx;refine WE.weak ⟨Ak4 o.ok hg hm hv ha.un (of_decide_eq_false hn) hdb he hpl⟩ fun σ H Q ⟨ρ,S,δ,R,sl,q⟩=>?_;refine⟨ρ,S,δ,R,sl,(Aw.seq (Rel:=RVs Θ) q).mono ?_⟩;rintro vs H1 ⟨ρ1,S1,ws,p1,t1,R1,rvs,q1⟩;exact o.by_ ρ1 S1 H1 ws vs Q (E σ) R1 rvs q1
end
inductive RS where
 |nx (δ:De) (S:Store)
 |rt (w:W) (S:Store)
 |bk (δ:De) (S:Store)
 |ct (δ:De) (S:Store)
 |ex (c:Nat×W) (δ:De) (S:Store)
 |bad
abbrev MS:=De->Store->RS
def Fg {α:Type} (m:M α) (k:α->MS):MS:=fun δ S=>match m S with
 |.ok a S1=>k a δ S1
 |.exc c S1=>.ex c δ S1
 |.bad=>.bad
def Am:MS:=.nx
def Aj (a b:MS):MS:=fun δ S=>match a δ S with
 |.nx δ1 S1=>b δ1 S1
 |r=>r
def Bo (i:Nat) (f:De->M W):MS:=fun δ=>Fg (f δ) (fun w δ S=>.nx (δ.set i (some w)) S) δ
def retS (f:De->M W):MS:=fun δ=>Fg (f δ) (fun w _ S=>.rt w S) δ
def Rz (f:De->M W):MS:=fun δ=>Fg (f δ) (fun _ δ S=>.nx δ S) δ
def ifS (c:De->M Bool) (a b:MS):MS:=fun δ=>Fg (c δ) (fun t=>if t then a else b) δ
def Hs (c:De->M Bool) (b:MS):Nat->MS
 |0=>fun _ _=>.bad
 |n+1=>fun δ=>Fg (c δ) (fun t=>if t then fun δ S=>match b δ S with
  |.nx δ1 S1=>Hs c b n δ1 S1
  |.ct δ1 S1=>Hs c b n δ1 S1
  |.bk δ1 S1=>.nx δ1 S1
  |r=>r else .nx) δ
section
variable (Θ:Th)
def RSs (ρ:List Addr) (H:Hp) (δ:De) (σ:L2.St):Prop:=δ.length=σ.length/\RSl Θ ρ H δ σ
def Ds (ρ:List Addr) (H:Hp) (r:RS) (D:Ends) (E:L2.St->XK):Prop:=match r with
 |.nx δ S=>∀ρ' H' σ',ρ <+: ρ'->Cy ρ ρ' H H'->Rep Θ ρ' S H'->RSs Θ ρ' H' δ σ'->D.nx σ' H'
 |.bk δ S=>∀ρ' H' σ',ρ <+: ρ'->Cy ρ ρ' H H'->Rep Θ ρ' S H'->RSs Θ ρ' H' δ σ'->D.bk σ' H'
 |.ct δ S=>∀ρ' H' σ',ρ <+: ρ'->Cy ρ ρ' H H'->Rep Θ ρ' S H'->RSs Θ ρ' H' δ σ'->D.ct σ' H'
 |.rt w S=>∀ρ' H' v,ρ <+: ρ'->Cy ρ ρ' H H'->Rep Θ ρ' S H'->RV Θ ρ' H' w v->D.rt v H'
 |.ex c δ S=>∀ρ' H' σ',ρ <+: ρ'->Cy ρ ρ' H H'->Rep Θ ρ' S H'->RSs Θ ρ' H' δ σ'->XP Θ ρ' H' c (E σ')
 |.bad=>False
def tS (E:L2.St->XK) (f:MS):TS:=fun D σ H=>∃ρ S δ,Rep Θ ρ S H/\RSs Θ ρ H δ σ/\Ds Θ ρ H (f δ S) D E
end
section
variable {Θ:Th} {X:Cx} {st:Stmt} {sts:List Stmt} {e c:Expr} {pos pos':Pos} {E:L2.St->XK} {f:De->M W} {cf:De->M Bool} {a b:MS} {x:Str}
theorem RSs.mono (p:ρ <+: ρ') (t:Cy ρ ρ' H H') (h:RSs Θ ρ H δ σ):RSs Θ ρ' H' δ σ:=⟨h.1,h.2.mono p t⟩
theorem RSs.set {i:Nat} (h:RSs Θ ρ H δ σ) (r:RV Θ ρ H w v):RSs Θ ρ H (δ.set i (some w)) (σ.set i (some v)):=by
 refine⟨by rw[length_set,length_set];exact h.1,fun j u e=>?_⟩
 by_cases hj:j=i
 .subst hj;have hl:j < δ.length:=by
   have z:=(List.getElem?_eq_some_iff.mp e).1
   rwa [length_set] at z
  rw[getElem?_set_self hl] at e;cases e;exact⟨v,getElem?_set_self (by rw[<-h.1];exact hl),r⟩
 .rw[getElem?_set_ne (Ne.symm hj)] at e;obtain⟨z,h1,h2⟩:=h.2 j u e;exact⟨z,by rw[getElem?_set_ne (Ne.symm hj)];exact h1,h2⟩
theorem Ds.shift (h:Ds Θ ρ H r D E) (p:ρ <+: ρ1) (t:Cy ρ ρ1 H H1):Ds Θ ρ1 H1 r D E:=by
 cases r with
 |bad=>exact h
 |_=>exact fun ρ2 H2 v p2 t2 r2 q2=>h ρ2 H2 v (p.trans p2) (t.trans t2) r2 q2
theorem Ds.nxt (h:Ds Θ ρ H (.nx δ S) D E) (R:Rep Θ ρ S H) (sl:RSs Θ ρ H δ σ):D.nx σ H:=h ρ H σ (prefix_refl ρ) (Cy.refl ρ H) R sl
theorem Ds.ret (h:Ds Θ ρ H (.rt w S) D E) (R:Rep Θ ρ S H) (rv:RV Θ ρ H w v):D.rt v H:=h ρ H v (prefix_refl ρ) (Cy.refl ρ H) R rv
theorem Ds.lift {α β:Type} {Rel:List Addr->Hp->α->β->Prop} {m:M α} {k:α->MS} (sl:RSs Θ ρ H δ σ) (h:Ds Θ ρ H (Fg m k δ S) D E) :
  Aw Θ Rel ρ H (m S) (fun v H1=>∃ρ1 S1 w,ρ <+: ρ1/\Cy ρ ρ1 H H1/\Rep Θ ρ1 S1 H1/\RSs Θ ρ1 H1 δ σ/\Rel ρ1 H1 w v/\Ds Θ ρ1 H1 (k w δ S1) D E) (E σ):=by
 unfold Fg at h;cases e:m S with
 |bad=>rw[e] at h;exact h
 |exc c S1=>rw[e] at h;exact fun ρ1 H1 p t r=>h ρ1 H1 σ p t r (sl.mono p t)
 |ok w S1=>
  rw[e] at h;exact fun ρ1 H1 v p t r rw'=>⟨ρ1,S1,w,p,t,r,sl.mono p t,rw',Ds.shift h p t⟩
theorem WS.weak (h:WS X st t) (k:∀D σ H,t' D σ H->t D σ H):WS X st t':=⟨fun aa s σ H D I q=>h.un aa s σ H D I (k D σ H q)⟩
theorem WSs.weak (h:WSs X sts t) (k:∀D σ H,t' D σ H->t D σ H):WSs X sts t':=⟨fun aa s σ H D I q=>h.un aa s σ H D I (k D σ H q)⟩
theorem Bal:WSs X [] (tS Θ E Am):=WSs.weak Bgh fun D σ H ⟨ρ,S,δ,R,sl,q⟩=>q.nxt R sl
theorem Auv (ha:WS X st (tS Θ E a)) (hb:WSs X sts (tS Θ E b)):WSs X (st::sts) (tS Θ E (Aj a b)):=WSs.weak (Bdy ha hb) fun D σ H ⟨ρ,S,δ,R,sl,q⟩=>by
 refine⟨ρ,S,δ,R,sl,?_⟩;unfold Aj at q;cases e:a δ S with
 |nx δ1 S1=>
  rw[e] at q;exact fun ρ1 H1 σ1 p1 t1 R1 sl1=>⟨ρ1,S1,δ1,R1,sl1,Ds.shift q p1 t1⟩
 |_=>rw[e] at q;exact q
theorem Apd {i:Nat} (he:WE X e (tF Θ E f)) (nd:decide X.N.Nodup=true) (hi:X.N[i]?=some x) (hl:Ahc X.env.scope x=true) (hs:swapsWith e (some (.Name x pos')) pos.line X.env=pure false) (hf:X.fn x=true) :
  WS X (.Assign [.Name x pos'] e pos) (tS Θ E (Bo i f)):=WS.weak (Bge he nd hi hl hs hf) fun D σ H ⟨ρ,S,δ,R,sl,q⟩=>by
 refine⟨ρ,S,δ,R,sl.2,(Ds.lift (Rel:=RV Θ) sl q).mono ?_⟩;rintro v H1 ⟨ρ1,S1,w,p1,t1,R1,sl1,rv,q1⟩;exact q1.nxt R1 (sl1.set rv)
theorem Bam (he:WE X e (tF Θ E f)):WS X (.Return (some e) pos) (tS Θ E (retS f)):=WS.weak (Bgf he) fun D σ H ⟨ρ,S,δ,R,sl,q⟩=>by
 refine⟨ρ,S,δ,R,sl.2,(Ds.lift (Rel:=RV Θ) sl q).mono ?_⟩;rintro v H1 ⟨ρ1,S1,w,p1,t1,R1,sl1,rv,q1⟩;exact q1.ret R1 rv
theorem Auw (he:WE X e (tF Θ E f)) (hs:swapsWith e none pos.line X.env=pure false):WS X (.Expr e pos) (tS Θ E (Rz f)):=WS.weak (Bdw he hs) fun D σ H ⟨ρ,S,δ,R,sl,q⟩=>by
 refine⟨ρ,S,δ,R,sl.2,(Ds.lift (Rel:=RV Θ) sl q).mono ?_⟩;rintro v H1 ⟨ρ1,S1,w,p1,t1,R1,sl1,rv,q1⟩;exact q1.nxt R1 sl1
theorem Bef (hc:WT X c (tFb Θ E cf)) (ha:WSs X A (tS Θ E a)) (hb:WSs X B (tS Θ E b)):WS X (.If c A B pos) (tS Θ E (ifS cf a b)):=WS.weak (sif hc ha hb) fun D σ H ⟨ρ,S,δ,R,sl,q⟩=>by
 refine⟨ρ,S,δ,R,sl.2,(Ds.lift (Rel:=fun _ _ a b=>a=b) sl q).mono ?_⟩;rintro v H1 ⟨ρ1,S1,w,p1,t1,R1,sl1,rfl,q1⟩;cases w with
 |true=>exact L2.Ag5 ⟨ρ1,S1,δ,R1,sl1,q1⟩
 |false=>exact L2.Ag4 ⟨ρ1,S1,δ,R1,sl1,q1⟩
theorem Ape (n:Nat) (hp:PassesOwn (model X.prog X.w) X.A X.env X.xe) (hc:WT X c (tFb Θ E cf)) (hb:WSs X body (tS Θ E b)):WS X (.While c body [] pos) (tS Θ E (Hs cf b n)):=
 WS.weak ⟨Ans hp hc.un hb.un⟩ fun D σ H ⟨ρ,S,δ,R,sl,q⟩=>by
  refine⟨fun m σ H=>∃ρ S δ,Rep Θ ρ S H/\RSs Θ ρ H δ σ/\Ds Θ ρ H (Hs cf b m δ S) D E,⟨n,ρ,S,δ,R,sl,q⟩,?_⟩;rintro m σ H ⟨ρ,S,δ,R,sl,q⟩;cases m with
  |zero=>exact q.elim
  |succ m=>
   refine⟨ρ,S,δ,R,sl.2,(Ds.lift (Rel:=fun _ _ a b=>a=b) sl q).mono ?_⟩;rintro v H1 ⟨ρ1,S1,w,p1,t1,R1,sl1,rfl,q1⟩;cases w with
   |false=>exact L2.Ag4 (q1.nxt R1 sl1)
   |true=>
    refine L2.Ag5 ⟨fun σ H=>∃ρ S δ,Rep Θ ρ S H/\RSs Θ ρ H δ σ/\Ds Θ ρ H (Hs cf b m δ S) D E,fun σ' H' h=>⟨m,lt_succ_self m,h⟩,ρ1,S1,δ,R1,sl1,?_⟩;simp only[if_true] at q1;cases e:b δ S1 with
    |nx δ2 S2=>
     rw[e] at q1;exact fun ρ2 H2 σ2 p2 t2 R2 sl2=>⟨ρ2,S2,δ2,R2,sl2,Ds.shift q1 p2 t2⟩
    |ct δ2 S2=>
     rw[e] at q1;exact fun ρ2 H2 σ2 p2 t2 R2 sl2=>⟨ρ2,S2,δ2,R2,sl2,Ds.shift q1 p2 t2⟩
    |bk δ2 S2=>
     rw[e] at q1;exact fun ρ2 H2 σ2 p2 t2 R2 sl2=>q1 ρ2 H2 σ2 p2 t2 R2 sl2
    |_=>rw[e] at q1;exact q1
end
abbrev Tg:=W->De->Option De
def Cu (i:Nat):Tg:=fun w δ=>some (δ.set i (some w))
def W9 (is:List Nat):Tg:=fun w δ=>match w with
 |.tup ws=>if ws.length=is.length then some ((is.zip ws).foldl (fun δ p=>δ.set p.1 (some p.2)) δ) else none
 |_=>none
def GOk (Θ:Th) (s:Tg) (g:TG):Prop:=∀ρ S H w v δ δ' σ Q,Rep Θ ρ S H->RSs Θ ρ H δ σ->RV Θ ρ H w v->s w δ=some δ'->(∀σ',RSs Θ ρ H δ' σ'->Q σ' H)->g v σ H Q
theorem Aeo (i:Nat):GOk Θ (Cu i) (Mp i):=fun ρ S H w v δ δ' σ Q R sl rv e k=>by
 cases e;exact k _ (sl.set rv)
def Yn:List Nat->TGs
 |[]=>Bc0
 |i::is=>Axn (Mp i) (Yn is)
theorem Aa6:∀(is:List Nat) {ws:List W} {vs:List V} {δ:De} {σ:L2.St} {Q:L2.St->Hp->Prop},RVs Θ ρ H ws vs->RSs Θ ρ H δ σ->ws.length=is.length->
  (∀σ',RSs Θ ρ H ((is.zip ws).foldl (fun δ p=>δ.set p.1 (some p.2)) δ) σ'->Q σ' H)->Yn is vs σ H Q
 |[],_,_,_,_,_,.nil,sl,_,k=>⟨rfl,k _ sl⟩
 |[],_,_,_,_,_,.cons _ _,_,e,_=>by simp at e
 |i::is,_,_,_,_,_,.nil,_,e,_=>by simp at e
 |i::is,_,_,_,_,_,.cons h r,sl,e,k=>⟨_,_,rfl,Aa6 is r (sl.set h) (by simpa using e) k⟩
theorem Ajb {Θ:Th} {K:PySem.W.Frag} (is:List Nat) {n:Nat} (hn:n=is.length):GOk Θ (W9 is) (Ayo K n (Yn is)):=fun ρ S H w v δ δ' σ Q R sl rv e k=>by
 cases rv <;> try (simp only[W9,reduceCtorEq] at e;done)
 rename_i a ws vs h1 r1;simp only[W9] at e;split at e
 .rename_i hz;cases e;exact⟨_,_,rfl,SqT.of h1,by rw[<-r1.length,hz,hn],Aa6 is r1 sl hz k⟩
 .cases e
def Ly (s:Tg) (b:MS):List W->MS
 |[]=>.nx
 |w::ws=>fun δ S=>match s w δ with
  |none=>.bad
  |some δ1=>match b δ1 S with
   |.nx δ2 S2=>Ly s b ws δ2 S2
   |.ct δ2 S2=>Ly s b ws δ2 S2
   |.bk δ2 S2=>.nx δ2 S2
   |r=>r
def forL (s:Tg) (b:MS) (n:Nat):Nat->Nat->MS
 |0,_=>fun _ _=>.bad
 |m+1,i=>fun δ S=>match S[n]? with
  |some (.lst ws)=>match ws[i]? with
   |none=>.nx δ S
   |some w=>match s w δ with
    |none=>.bad
    |some δ1=>match b δ1 S with
     |.nx δ2 S2=>forL s b n m (i+1) δ2 S2
     |.ct δ2 S2=>forL s b n m (i+1) δ2 S2
     |.bk δ2 S2=>.nx δ2 S2
     |r=>r
  |_=>.bad
structure JOk (Θ:Th) (J:It) (all:List W) (ρ0:List Addr) (H0:Hp):Prop where
 go:∀ρ H i,ρ0 <+: ρ->Cy ρ0 ρ H0 H->i < all.length->J.go i H/\∀x H',J.yld i H x H'->Cy ρ ρ H H'/\(∀S,Rep Θ ρ S H->Rep Θ ρ S H')/\∃w,all[i]?=some w/\RV Θ ρ H' w x
 stop:∀ρ H i,Cy ρ0 ρ H0 H->i=all.length->J.stop i H
section
theorem Aux (gk:GOk Θ s g) (jk:JOk Θ J all ρ H) (R:Rep Θ ρ S H) (sl:RSs Θ ρ H δ σ) (q:Ds Θ ρ H (Ly s b all δ S) D E) :
  ∃W:Nat->Nat->L2.St->Hp->Prop,(∃m,W 0 m σ H)/\∀i m σ H,W i m σ H->(J.stop i H/\D.nx σ H)\/(J.go i H/\∃N:L2.St->Hp->Prop,(∀σ' H',N σ' H'->∃m',m' < m/\W (i+1) m' σ' H')/\∀x H',J.yld i H x H'->g x σ H' fun σ2 H2=>tS Θ E b { D with nx:=N,ct:=N,bk:=D.nx } σ2 H2):=by
 refine⟨fun i m σ H1=>∃ρ1 S1 δ1,i<=all.length/\ρ <+: ρ1/\Cy ρ ρ1 H H1/\Rep Θ ρ1 S1 H1/\RSs Θ ρ1 H1 δ1 σ/\m=(all.drop i).length/\Ds Θ ρ1 H1 (Ly s b (all.drop i) δ1 S1) D E,⟨_,ρ,S,δ,zero_le _,prefix_refl _,Cy.refl _ _,R,sl,rfl,q⟩,?_⟩;rintro i m σ1 H1 ⟨ρ1,S1,δ1,li,p1,t1,R1,sl1,rfl,q1⟩;by_cases hi:i < all.length
 .obtain⟨go,yl⟩:=jk.go ρ1 H1 i p1 t1 hi;refine .inr ⟨go,fun σ2 H2=>∃ρ2 S2 δ2,ρ <+: ρ2/\Cy ρ ρ2 H H2/\Rep Θ ρ2 S2 H2/\RSs Θ ρ2 H2 δ2 σ2/\Ds Θ ρ2 H2 (Ly s b (all.drop (i+1)) δ2 S2) D E,?_,fun x H' hy=>?_⟩
  .rintro σ2 H2 ⟨ρ2,S2,δ2,p2,t2,R2,sl2,q2⟩;exact⟨(all.drop (i+1)).length,by rw[length_drop,length_drop];omega,ρ2,S2,δ2,hi,p2,t2,R2,sl2,rfl,q2⟩
  .obtain⟨ty,Ry,w,ew,rv⟩:=yl x H' hy;have R1:=Ry _ R1;have sl1:=sl1.mono (prefix_refl _) ty;have t1:=t1.trans ty;have q1:=Ds.shift q1 (prefix_refl _) ty;have ed:all.drop i=w::all.drop (i+1):=by
    obtain⟨hl,e⟩:=List.getElem?_eq_some_iff.mp ew;rw[<-e];exact drop_eq_getElem_cons hl
   rw[ed] at q1;unfold Ly at q1;cases es:s w δ1 with
   |none=>simp only[es] at q1;exact q1.elim
   |some δ2=>
    simp only[es] at q1;refine gk ρ1 S1 H' w x δ1 δ2 σ1 _ R1 sl1 rv es fun σ2 sl2=>⟨ρ1,S1,δ2,R1,sl2,?_⟩;cases e:b δ2 S1 with
    |nx δ3 S3=>
     rw[e] at q1;exact fun ρ3 H3 σ3 p3 t3 R3 sl3=>⟨ρ3,S3,δ3,p1.trans p3,t1.trans t3,R3,sl3,Ds.shift q1 p3 t3⟩
    |ct δ3 S3=>
     rw[e] at q1;exact fun ρ3 H3 σ3 p3 t3 R3 sl3=>⟨ρ3,S3,δ3,p1.trans p3,t1.trans t3,R3,sl3,Ds.shift q1 p3 t3⟩
    |bk δ3 S3=>
     rw[e] at q1;exact fun ρ3 H3 σ3 p3 t3 R3 sl3=>q1 ρ3 H3 σ3 p3 t3 R3 sl3
    |_=>rw[e] at q1;exact q1
 .rw[drop_eq_nil_of_le (by omega)] at q1
  exact .inl ⟨jk.stop ρ1 H1 i t1 (by omega),q1.nxt R1 sl1⟩
end
inductive Src where
 |fix (ws:List W)
 |liv (n:Nat)
 |zl (n m:Nat)
def Auy (ns:List Int) (x:W):M Src:=match x with
 |.tup ws=>pure (.fix ws)
 |.scr=>pure (.fix (ns.map W.int))
 |.str z=>if z.length<=big then pure (.fix (chars z)) else bad
 |.ref n=>fun S=>match S[n]? with
  |some (.lst _)=>.ok (.liv n) S
  |_=>.bad
 |_=>bad
def Eh (ns:List Int) (f:De->M W):De->M Src:=fun δ=>do let x<-f δ;Auy ns x
def Hw:List W->M Src
 |[.int j]=>if -(2 ^ 62)<=j/\j < 2 ^ 62 then pure (.fix ((List.range j.toNat).map fun(k:Nat)=>W.int ((0:Int)+(k:Int)))) else bad
 |_=>bad
def Om (r:List W->M Src) (f:De->M (List W)):De->M Src:=fun δ=>do let x<-f δ;r x
def Vh (src:De->M Src) (s:Tg) (b:MS):MS:=fun δ=>Fg (src δ) (fun z=>match z with
 |.fix ws=>Ly s b ws
 |_=>fun _ _=>.bad) δ
def Xa (Θ:Th) (ρ:List Addr) (H:Hp) (z:Src) (J:It):Prop:=match z with
 |.fix ws=>JOk Θ J ws ρ H
 |.liv n=>∃a,ρ[n]?=some a/\J=Itl Θ.K a
 |.zl n m=>∃a b,ρ[n]?=some a/\ρ[m]?=some b/\J=Itz Θ.K false a b
def tFi (Θ:Th) (E:L2.St->XK) (f:De->M Src):TI:=fun σ H Q=>∃ρ S δ,Rep Θ ρ S H/\RSl Θ ρ H δ σ/\Aw Θ (Xa Θ) ρ H (f δ S) Q (E σ)
section
theorem Auz (h:H a=some (.tup vs)) (r:RVs Θ ρ H ws vs):JOk Θ (Itt Θ.K a) ws ρ H where
 go:=fun ρ1 H1 i p t hi=>by
  obtain⟨v,e,rv⟩:=r.get (getElem?_eq_getElem hi);have sq:SqT Θ.K H1 a vs:=SqT.of (t.t _ _ h);refine⟨⟨vs,v,sq,e⟩,?_⟩;rintro x H' ⟨rfl,hx⟩;have z:=hx vs sq;rw[e] at z;cases z;exact⟨Cy.refl _ _,fun _ r=>r,_,getElem?_eq_getElem hi,rv.mono p t⟩
 stop:=fun ρ1 H1 i t hi=>⟨vs,SqT.of (t.t _ _ h),by rw[<-r.length,hi];exact le_refl _⟩
theorem Au0 (h:Scr Θ H):JOk Θ (Itl Θ.K Θ.l) (Θ.ns.map W.int) ρ H where
 go:=fun ρ1 H1 i p t hi=>by
  have sq:=(h.mono t).sq;rw[length_map] at hi;have e:(Θ.ns.map V.int)[i]?=some (.int Θ.ns[i]):=by rw[getElem?_map,getElem?_eq_getElem hi];rfl
  refine⟨⟨_,_,sq,e⟩,?_⟩;rintro x H' ⟨rfl,hx⟩;have z:=hx _ sq;rw[e] at z;cases z;exact⟨Cy.refl _ _,fun _ r=>r,.int Θ.ns[i],by rw[getElem?_map,getElem?_eq_getElem hi];rfl,.int _⟩
 stop:=fun ρ1 H1 i t hi=>⟨_,(h.mono t).sq,by rw[length_map] at hi ⊢;omega⟩
theorem Au1 (lo:Int) (n:Nat):JOk Θ (Itr lo n) ((List.range n).map fun(k:Nat)=>W.int (lo+(k:Int))) ρ H where
 go:=fun ρ1 H1 i p t hi=>by
  rw[length_map,length_range] at hi;refine⟨hi,?_⟩;rintro x H' ⟨rfl,rfl⟩;exact⟨Cy.refl _ _,fun _ r=>r,.int (lo+i),by rw[getElem?_map,List.getElem?_range hi];rfl,.int _⟩
 stop:=fun ρ1 H1 i t hi=>by rw[length_map,length_range] at hi;exact le_of_eq hi.symm
theorem Au2 (z:Str):JOk Θ (Its z) (chars z) ρ H where
 go:=fun ρ1 H1 i p t hi=>by
  unfold chars at hi ⊢
  rw[length_map,length_toList] at hi;refine⟨hi,?_⟩;rintro x H' ⟨rfl,c,hc,rfl⟩;exact⟨Cy.refl _ _,fun _ r=>r,.str ⟨#[c]⟩,by rw[getElem?_map,getElem?_toList,hc];rfl,.str _⟩
 stop:=fun ρ1 H1 i t hi=>by
  unfold chars at hi;rw[length_map,length_toList] at hi;exact hi
end
section
theorem WI.weak (h:WI X tg e t) (k:∀σ H Q,t' σ H Q->t σ H Q):WI X tg e t':=⟨fun aa s σ H Q I q=>h.un aa s σ H Q I (k σ H Q q)⟩
theorem WI.or (h:WI X tg e t) (h':WI X tg e t'):WI X tg e (fun σ H Q=>t σ H Q\/t' σ H Q):=⟨fun aa s σ H Q I q=>by
 rcases q with q|q
 .exact h.un aa s σ H Q I q
 .exact h'.un aa s σ H Q I q⟩
theorem Aep (hK:X.K=Θ.K) (h:WE X e (tF Θ E f)):WI X tg e (tFi Θ E (Eh Θ.ns f)):=
 WI.weak (WI.or (WI.or (Azz h) (At2 h)) (Azy h)) fun σ H Q ⟨ρ,S,δ,R,sl,q⟩=>by
  rw[hK];have go:∀(pr:V->Hp->Prop),(∀v H1 ρ1 S1 w,Rep Θ ρ1 S1 H1->RV Θ ρ1 H1 w v->Aw Θ (Xa Θ) ρ1 H1 (Auy Θ.ns w S1) Q (E σ)->f δ S=.ok w S1->pr v H1)->tF Θ E f σ H pr:=fun pr k=>by
   refine⟨ρ,S,δ,R,sl,?_⟩;have q2:=Aw.seq (Rel:=RV Θ) q;cases ef:f δ S with
   |bad=>rw[ef] at q2;exact q2
   |exc c S1=>rw[ef] at q2;exact q2
   |ok w S1=>
    rw[ef] at q2;intro ρ1 H1 v p1 t1 R1 rv;have q:Aw Θ (Xa Θ) ρ H (M.bind (f δ) (Auy Θ.ns) S) Q (E σ):=q;unfold M.bind at q;rw[ef] at q;exact k v H1 ρ1 S1 w R1 rv (Aw.shift q p1 t1) ef
  cases ef:f δ S with
  |bad=>exact .inl (.inl (go _ fun v H1 ρ1 S1 w R1 rv q1 e1=>by rw[ef] at e1;cases e1))
  |exc c S1=>exact .inl (.inl (go _ fun v H1 ρ1 S1 w R1 rv q1 e1=>by rw[ef] at e1;cases e1))
  |ok w0 S0=>
   cases w0 with
   |str z=>
    refine .inr (go _ fun v H1 ρ1 S1 w R1 rv q1 e1=>?_);rw[ef] at e1;cases e1;cases rv;obtain⟨hz,q1⟩:=Hd q1;exact⟨_,rfl,Aw.now q1 R1 (Au2 _)⟩
   |tup ws=>
    refine .inl (.inl (go _ fun v H1 ρ1 S1 w R1 rv q1 e1=>?_));rw[ef] at e1;cases e1;cases rv with
    |tup h1 r1=>exact⟨_,rfl,⟨_,SqT.of h1⟩,Aw.now (Rel:=Xa Θ) q1 R1 (Auz h1 r1)⟩
   |scr=>
    refine .inl (.inr (go _ fun v H1 ρ1 S1 w R1 rv q1 e1=>?_));rw[ef] at e1;cases e1;cases rv with
    |scr hs=>exact⟨_,rfl,⟨_,hs.sq⟩,Aw.now (Rel:=Xa Θ) q1 R1 (Au0 hs)⟩
   |ref n=>
    refine .inl (.inr (go _ fun v H1 ρ1 S1 w R1 rv q1 e1=>?_));rw[ef] at e1;cases e1;cases rv with
    |@ref _ a hn=>
     simp only[Auy] at q1;split at q1
     .rename_i us e2;obtain⟨a',ha',vs,h2,r2⟩:=R1.get e2;rw[hn] at ha';cases ha';exact⟨_,rfl,⟨vs,.inl (.inl h2)⟩,Jt (Rel:=Xa Θ) q1 R1 ⟨a,hn,rfl⟩⟩
     .exact(show False from q1).elim
   |_=>
    refine .inl (.inl (go _ fun v H1 ρ1 S1 w R1 rv q1 e1=>?_));rw[ef] at e1;cases e1;exact(show False from q1).elim
theorem Ban (hp:PassesOwn (model X.prog X.w) X.A X.env X.xe) (hK:X.K=Θ.K) (hc:X.calm=true) (hi:WI X tg iter (tFi Θ E src)) (hg:WG X tg g) (gk:GOk Θ s g) (hb:WSs X body (tS Θ E bd)) (hs:∀x,foldedSetIterable iter X.env x=pure x) :
  WS X (.For tg iter body [] pos) (tS Θ E (Vh src s bd)):=WS.weak ⟨Ayt hp hc hi.un hg.un hb.un hs⟩ fun D σ H ⟨ρ,S,δ,R,sl,q⟩=>by
 refine⟨ρ,S,δ,R,sl.2,(Ds.lift (Rel:=Xa Θ) sl q).mono ?_⟩;rintro J H1 ⟨ρ1,S1,z,p1,t1,R1,sl1,rj,q1⟩;cases z with
 |fix ws=>exact Aux gk rj R1 sl1 q1
 |liv n=>exact q1.elim
 |zl n m=>exact q1.elim
end
section
theorem Bao (hm:X.mg "range"=none) (ha:WA X [a] (tFs Θ E gs)) (hg:X.env.kindOf "range"=some .globalImplicit) (hs:starEach [a] X.env=[(false,eval a X.env)]):WI X tg (.Call (.Name "range" p) [a] [] pos) (tFi Θ E (Om Hw gs)):=
 WI.weak (At1 hm ha hg hs) fun σ H Q ⟨ρ,S,δ,R,sl,q⟩=>by
  refine⟨ρ,S,δ,R,sl,(Aw.seq (Rel:=RVs Θ) q).mono ?_⟩;rintro vs H1 ⟨ρ1,S1,ws,p1,t1,R1,rvs,q1⟩;cases rvs with
  |nil=>exact(show False from q1).elim
  |cons h1 r=>
   cases r with
   |cons _ _=>cases h1 <;> exact(show False from q1).elim
   |nil=>
    cases h1 <;> try exact(show False from q1).elim
    obtain⟨hz,q1⟩:=Hd q1;exact⟨_,rfl,hz.1,hz.2,Aw.now (Rel:=Xa Θ) q1 R1 (Au1 0 _)⟩
end
inductive Ty where
 |lst|str
def Ty.is:Ty->W->Store->Bool
 |.lst,.ref n,S=>match S[n]? with
  |some (.lst _)=>true
  |_=>false
 |.str,.str _,_=>true
 |_,_,_=>false
def Ty.name:Ty->String
 |.lst=>"list"
 |.str=>"str"
def Jc (T:Ty) (op:W->List W->M W) (f:De->M W) (gs:De->M (List W)):De->M W:=fun δ=>do
 let x<-f δ;let _<-(fun S=>if T.is x S then .ok () S else .bad:M Unit)
 let ws<-gs δ
 op x ws
def Ajc (x:W) (k:Nat->List W->M W):M W:=match x with
 |.ref n=>fun S=>match S[n]? with
  |some (.lst ws)=>k n ws S
  |_=>.bad
 |_=>bad
def putL (n:Nat) (ws:List W) (r:W):M W:=fun S=>if ws.length<=big then .ok r (S.set n (.lst ws)) else .bad
def Ng (x:W) (us:List W):M W:=Ajc x fun n ws=>match us with
 |[.int i]=>if ws.length<=big then match ixN ws.length i with
  |some j=>match ws[j]? with
   |some w=>putL n (ws.eraseIdx j) w
   |none=>bad
  |none=>bad else bad
 |_=>bad
def Ko (x:W) (us:List W):M W:=match x,us with
 |.str z,[.ref n]=>fun S=>match S[n]? with
  |some (.lst ws)=>match Ex Aja ws with
   |some ys=>if (ys.map (·.length)).sum+ys.length * z.length<=big then .ok (.str (Txt.join z ys)) S else .bad
   |none=>.bad
  |_=>.bad
 |_,_=>bad
def Apf (x:W) (us:List W):M W:=match x,us with
 |.str z,[.str y]=>pure (.int (Txt.find z y))
 |_,_=>bad
def Ahj (x:W) (us:List W):M W:=match x,us with
 |.str z,[.str y]=>pure (.int (Txt.rfind z y))
 |_,_=>bad
def Nh (x:W) (us:List W):M W:=match x,us with
 |.str z,[.str y]=>match Builtin.Str.occurrences z y 0 z.length 1 with
  |i::_=>pure (.int (i:Nat))
  |[]=>bad
 |_,_=>bad
def Acs (x:W) (us:List W):M W:=match x,us with
 |.str z,[.int i,.str f]=>if PadOk i&&decide (f.length=1) then pure (.str (Txt.ljustF z i (f.cps.getD 0 0))) else bad
 |_,_=>bad
def Acu (x:W) (us:List W):M W:=match x,us with
 |.str z,[.str y]=>if z.length<=big then pure (.str (Txt.stripChars z y)) else bad
 |_,_=>bad
theorem Apg:MtR X "str.ljust" (fun x vs H Q=>∃z i f,x=.str z/\vs=[.int i,.str f]/\PadOk i=true/\f.length=1/\Q (.str (Txt.ljustF z i (f.cps.getD 0 0))) H):=by
 intro aa s σ H x vs v us Q I rx rv h;obtain⟨z,i,f,rfl,rfl,hp,hf,q⟩:=h;obtain⟨t,rfl⟩:=rx;obtain⟨u,w,rfl,⟨t1,rfl⟩,t2,rfl⟩:=rv.two;exact ljust_fill hp hf fun t' k=>⟨.str _,H,I.tok _,⟨_,rfl⟩,q⟩
section
theorem Au3 (R:Rep Θ ρ S H) (hx:RV Θ ρ H x vx) (r:RVs Θ ρ H us vs) (h:Aw Θ (RV Θ) ρ H (Acs x us S) Q E):∃z i f,vx=.str z/\vs=[.int i,.str f]/\PadOk i=true/\f.length=1/\Q (.str (Txt.ljustF z i (f.cps.getD 0 0))) H:=by
 unfold Acs at h;split at h
 .rename_i z i f;cases hx;cases r with|cons r1 r=>
  cases r with|cons r2 r=>
  cases r;cases r1;cases r2;obtain⟨hc,h⟩:=Hd h;rw[and_eq_true] at hc;exact⟨_,_,_,rfl,rfl,hc.1,of_decide_eq_true hc.2,h.now R (.str _)⟩
 .exact(show False from h).elim
theorem Au4 (R:Rep Θ ρ S H) (hx:RV Θ ρ H x vx) (r:RVs Θ ρ H us vs) (h:Aw Θ (RV Θ) ρ H (Nh x us S) Q E):∃z y i rest,vx=.str z/\vs=[.str y]/\Builtin.Str.occurrences z y 0 z.length 1=i::rest/\Q (.int (i:Nat)) H:=by
 unfold Nh at h;split at h
 .rename_i z y;cases hx;cases r with|cons r1 r=>
  cases r;cases r1;cases e:Builtin.Str.occurrences z y 0 z.length 1 with
  |nil=>rw[e] at h;exact(show False from h).elim
  |cons i rest=>
   rw[e] at h;exact⟨_,_,i,rest,rfl,rfl,e,h.now R (.int _)⟩
 .exact(show False from h).elim
theorem Aph {k:Nat->List W->M W} (R:Rep Θ ρ S H) (hx:RV Θ ρ H x vx) (h:Aw Θ (RV Θ) ρ H (Ajc x k S) Q E) :
  ∃n a ws zs,x=.ref n/\vx=.ref a/\ρ[n]?=some a/\S[n]?=some (.lst ws)/\H a=some (.lst zs)/\RVs Θ ρ H ws zs/\Aw Θ (RV Θ) ρ H (k n ws S) Q E:=by
 cases hx <;> try exact(show False from h).elim
 rename_i n a hn;simp only[Ajc] at h;split at h
 .rename_i ws e1;obtain⟨a',ha',zs,h2,r2⟩:=R.get e1;rw[hn] at ha';cases ha';exact⟨n,a,ws,zs,rfl,rfl,hn,e1,h2,r2,h⟩
 .exact(show False from h).elim
theorem Au5 {n:Nat} (R:Rep Θ ρ S H) (hn:ρ[n]?=some a) (h0:H a=some (.lst zs0)) (rz:RVs Θ ρ H ws zs) (rr:RV Θ ρ H r vr) (h:Aw Θ (RV Θ) ρ H (putL n ws r S) Q E) :
  zs.length<=big/\Q vr (upd H a (.lst zs)):=by
 simp only[putL] at h;split at h
 .rename_i hz;have t:Cy ρ ρ H (upd H a (.lst zs)):=Sx hn h0 (fun _ e=>by cases e) (fun _ _ e=>by cases e)
  refine⟨by rw[<-rz.length];exact hz,h ρ _ vr (prefix_refl _) t (R.write hn t ⟨zs,Bm,rz.mono (prefix_refl _) t⟩) (rr.mono (prefix_refl _) t)⟩
 .exact(show False from h).elim
theorem RVs.erase:∀{ws:List W} {zs:List V} (i:Nat),RVs Θ ρ H ws zs->RVs Θ ρ H (ws.eraseIdx i) (zs.eraseIdx i)
 |_,_,_,.nil=>.nil
 |_,_,0,.cons _ r=>r
 |_,_,i+1,.cons h r=>.cons h (RVs.erase i r)
theorem Au6 (R:Rep Θ ρ S H) (hx:RV Θ ρ H x vx) (r:RVs Θ ρ H us vs) (h:Aw Θ (RV Θ) ρ H (Ng x us S) Q E):An4 vx vs H Q:=by
 obtain⟨n,a,ws,zs,rfl,rfl,hn,e1,h1,r1,h⟩:=Aph R hx h;cases r with
 |nil=>exact(show False from h).elim
 |cons hu r=>
  cases r with
  |cons _ _=>cases hu <;> exact(show False from h).elim
  |nil=>
   cases hu with
   |int i=>
    obtain⟨hz,h⟩:=Hd h;cases ej:ixN ws.length i with
    |none=>simp only[ej] at h;exact(show False from h).elim
    |some j=>
     cases ew:ws[j]? with
     |none=>simp only[ej,ew] at h;exact(show False from h).elim
     |some w=>
      simp only[ej,ew] at h;obtain⟨v,ev,rv⟩:=r1.get ew;obtain⟨_,q⟩:=Au5 R hn h1 (r1.erase j) rv h;rw[r1.length] at ej;obtain⟨s1,s2,s3,s4⟩:=Ai0 ej;have hn:=Vb;have hl:=Km hz;rw[r1.length] at hl;exact⟨a,zs,i,j,v,rfl,rfl,h1,by omega,by omega,s1,ev,q⟩
   |_=>exact(show False from h).elim
theorem Bap (R:Rep Θ ρ S H) (hx:RV Θ ρ H x vx) (r:RVs Θ ρ H us vs) (h:Aw Θ (RV Θ) ρ H (Apf x us S) Q E):∃z y,vx=.str z/\vs=[.str y]/\Q (.int (Txt.find z y)) H:=by
 cases hx <;> try exact(show False from h).elim
 cases r with
 |nil=>exact(show False from h).elim
 |cons hu r=>
  cases r with
  |cons _ _=>cases hu <;> exact(show False from h).elim
  |nil=>
   cases hu <;> try exact(show False from h).elim
   exact⟨_,_,rfl,rfl,h.now R (.int _)⟩
theorem Au7 (R:Rep Θ ρ S H) (hx:RV Θ ρ H x vx) (r:RVs Θ ρ H us vs) (h:Aw Θ (RV Θ) ρ H (Acu x us S) Q E):∃z y,vx=.str z/\vs=[.str y]/\z.length<=sizeLine/\Q (.str (Txt.stripChars z y)) H:=by
 cases hx <;> try exact(show False from h).elim
 cases r with
 |nil=>exact(show False from h).elim
 |cons hu r=>
  cases r with
  |cons _ _=>cases hu <;> exact(show False from h).elim
  |nil=>
   cases hu <;> try exact(show False from h).elim
   obtain⟨hz,h⟩:=Hd h;exact⟨_,_,rfl,rfl,Km hz,h.now R (.str _)⟩
theorem Au8 (R:Rep Θ ρ S H) (hx:RV Θ ρ H x vx) (r:RVs Θ ρ H us vs) (h:Aw Θ (RV Θ) ρ H (Ahj x us S) Q E):∃z y,vx=.str z/\vs=[.str y]/\Q (.int (Txt.rfind z y)) H:=by
 cases hx <;> try exact(show False from h).elim
 cases r with
 |nil=>exact(show False from h).elim
 |cons hu r=>
  cases r with
  |cons _ _=>cases hu <;> exact(show False from h).elim
  |nil=>
   cases hu <;> try exact(show False from h).elim
   exact⟨_,_,rfl,rfl,h.now R (.int _)⟩
theorem Baq (R:Rep Θ ρ S H) (hx:RV Θ ρ H x vx) (r:RVs Θ ρ H us vs) (h:Aw Θ (RV Θ) ρ H (Ko x us S) Q E):∃z p ys,vx=.str z/\vs=[.ref p]/\H p=some (.lst (ys.map V.str))/\(ys.map (·.length)).sum+ys.length * z.length<=16777216/\Q (.str (Txt.join z ys)) H:=by
 cases hx <;> try exact(show False from h).elim
 cases r with
 |nil=>exact(show False from h).elim
 |cons hu r=>
  cases r with
  |cons _ _=>cases hu <;> exact(show False from h).elim
  |nil=>
   cases hu <;> try exact(show False from h).elim
   rename_i z n a hn;simp only[Ko] at h;split at h
   .rename_i ws e1;split at h
    .rename_i ys e2;split at h
     .rename_i hz;obtain⟨a',ha',zs,h2,r2⟩:=R.get e1;rw[hn] at ha';cases ha';rw[Ud Apb r2 e2] at h2;exact⟨z,a,ys,rfl,rfl,h2,le_trans hz (by decide),Jt h R (.str _)⟩
     .exact(show False from h).elim
    .exact(show False from h).elim
   .exact(show False from h).elim
end
def Au9 (x:Str):Option (Ty×(W->List W->M W)):=
 if x="pop" then some (.lst,Ng)
 else if x="join" then some (.str,Ko) else if x="find" then some (.str,Apf) else if x="rfind" then some (.str,Ahj)
 else if x="ljust" then some (.str,Acs) else if x="index" then some (.str,Nh) else if x="strip" then some (.str,Acu) else none
structure Bg2 (Θ:Th) (X:Cx) (T:Ty) (name:Str) (op:W->List W->M W) where
 id:String
 pa:PlainAttrs T.name
 slot:Slot T.name name id
 ty:typeOf (.builtin id)=pure (.type "method_descriptor")
 r:V->List V->Hp->VK->Prop
 ok:MtR X id r
 by_:∀ρ S H x vx us vs Q E,Rep Θ ρ S H->RV Θ ρ H x vx->RVs Θ ρ H us vs->Aw Θ (RV Θ) ρ H (op x us S) Q E->r vx vs H Q
theorem Ava (h:Au9 name=some (T,op)):Nonempty (Bg2 Θ X T name op):=by
 unfold Au9 at h;split at h
 .rename_i e;subst e;cases h;exact⟨⟨_,PySem.F.plainAttrs_list,PySem.F.slot_list_pop,PySem.F.type_list_pop,_,An5,fun ρ S H x vx us vs Q E R hx r h=>Au6 R hx r h⟩⟩
 split at h
 .rename_i e;subst e;cases h;exact⟨⟨_,PySem.F.plainAttrs_str,PySem.F.slot_str_join,PySem.F.type_str_join,_,Ato,fun ρ S H x vx us vs Q E R hx r h=>Baq R hx r h⟩⟩
 split at h
 .rename_i e;subst e;cases h;exact⟨⟨_,PySem.F.plainAttrs_str,PySem.F.slot_str_find,PySem.F.type_str_find,_,Atw,fun ρ S H x vx us vs Q E R hx r h=>Bap R hx r h⟩⟩
 split at h
 .rename_i e;subst e;cases h;exact⟨⟨_,PySem.F.plainAttrs_str,PySem.F.slot_str_rfind,PySem.F.type_str_rfind,_,Aop,fun ρ S H x vx us vs Q E R hx r h=>Au8 R hx r h⟩⟩
 split at h
 .rename_i e;subst e;cases h;exact⟨⟨_,PySem.F.plainAttrs_str,PySem.F.slot_str_ljust,PySem.F.type_str_ljust,_,Apg,fun ρ S H x vx us vs Q E R hx r h=>Au3 R hx r h⟩⟩
 split at h
 .rename_i e;subst e;cases h;exact⟨⟨_,PySem.F.plainAttrs_str,PySem.F.slot_str_index,PySem.F.type_str_index,_,Aok,fun ρ S H x vx us vs Q E R hx r h=>Au4 R hx r h⟩⟩
 split at h
 .rename_i e;subst e;cases h;exact⟨⟨_,PySem.F.plainAttrs_str,PySem.F.slot_str_strip,PySem.F.type_str_strip,_,Aoq,fun ρ S H x vx us vs Q E R hx r h=>Au7 R hx r h⟩⟩
 .cases h
section
variable {Θ:Th} {X:Cx} {o e a b c:Expr} {es:List Expr} {name:Str} {ak cpos:Pos} {E:L2.St->XK} {f:De->M W} {gs:De->M (List W)} {T:Ty} {op:W->List W->M W}
theorem Ty.is_ok {ρ:List Addr} {S:Store} {H:Hp} {x:W} {v:V} {K:PySem.W.Frag} (R:Rep Θ ρ S H) (rv:RV Θ ρ H x v) (h:T.is x S=true):tyV K T.name v H:=by
 cases T with
 |str=>cases rv <;> first|rfl|exact absurd h Bool.false_ne_true
 |lst=>
  cases rv <;> try exact absurd h Bool.false_ne_true
  rename_i n a hn;simp only[Ty.is] at h;split at h
  .rename_i ws e1;obtain⟨a',ha',zs,h2,r2⟩:=R.get e1;rw[hn] at ha';cases ha';exact .inl ⟨rfl,zs,.inl (.inl h2)⟩
  .exact absurd h Bool.false_ne_true
theorem Bg3 (hx:Au9 name=some (T,op)) (ho:WE X o (tF Θ E f)) (ha:WA X (e::es) (tFs Θ E gs)) (bf:attributeBase o name X.env (eval o X.env)=eval o X.env)
  (hfew:((backTo cpos (starEach (e::es) X.env)).all (fun x=>!x.1)&&(backToKw cpos (keywordEach [] X.env)).all (fun x=>x.1.isSome)&&decide ((e::es).length+([]:List Keyword).length+(if ([]:List Keyword).isEmpty then 0 else 1) < 30))=true)
  (aq:(ak.endLine==cpos.line)=true) (he:starEach (e::es) X.env=(false,eval e X.env)::starEach es X.env) (hpl:(backTo cpos (starEach es X.env)).any (·.1)=false) :
  WE X (.Call (.Attribute o name ak) (e::es) [] cpos) (tF Θ E (Jc T op f gs)):=by
 obtain⟨m⟩:=Ava (Θ:=Θ) (X:=X) hx;refine WE.weak (kbm m.pa m.slot m.ty m.ok ho ha bf hfew aq he hpl) fun σ H Q ⟨ρ,S,δ,R,sl,q⟩=>?_;refine⟨ρ,S,δ,R,sl,(Aw.seq (Rel:=RV Θ) q).mono ?_⟩;rintro v H1 ⟨ρ1,S1,w,p1,t1,R1,rv,q1⟩;have q1:Aw Θ (RV Θ) ρ1 H1 (M.bind (fun S=>if T.is w S then .ok () S else .bad) (fun _=>(gs δ) >>= fun ws=>op w ws) S1) Q (E σ):=q1
 unfold M.bind at q1;by_cases ht:T.is w S1=true
 .simp only[ht,if_true] at q1;refine⟨Ty.is_ok R1 rv ht,ρ1,S1,δ,R1,sl.mono p1 t1,(Aw.seq (Rel:=RVs Θ) q1).mono ?_⟩;rintro vs H2 ⟨ρ2,S2,ws,p2,t2,R2,rvs,q2⟩;exact m.by_ ρ2 S2 H2 w v ws vs Q (E σ) R2 (rv.mono p2 t2) rvs q2
 .simp only[ht,if_false] at q1;exact q1.elim
end
def FOk (Θ:Th) (ok:Bool->Nat->Str->Bool):Prop:=(∀c f,ok false c f=true->Cls Θ.K (Θ.cl c)/\Nf Θ.K (Θ.cl c) f)/\∀c f,ok true c f=true->Θ.xf c=some f/\XfK Θ.K (Θ.cl c) f
def Ue (ok:Bool->Nat->Str->Bool) (f:Str) (x:W):M W:=match x with
 |.ref n=>fun S=>match S[n]? with
  |some (.ins c fs)=>if ok false c f then Aag (fs.lookup f) S else .bad
  |_=>.bad
 |.exn c w=>if ok true c f then pure w else bad
 |_=>bad
def Mv (f:Str) (v:W):List (Str×W)->List (Str×W)
 |[]=>[(f,v)]
 |(g,x)::r=>if g=f then (g,v)::r else (g,x)::Mv f v r
def Aeq (ok:Bool->Nat->Str->Bool) (f:Str) (x y:W):M Unit:=match x with
 |.ref n=>fun S=>match S[n]? with
  |some (.ins c fs)=>if ok false c f&&decide (fs.length < 1000) then .ok () (S.set n (.ins c (Mv f y fs))) else .bad
  |_=>.bad
 |_=>bad
def Xb (ok:Bool->Nat->Str->Bool) (f:Str) (g:De->M W):De->M W:=fun δ=>do let x<-g δ;Ue ok f x
def Yo (ok:Bool->Nat->Str->Bool) (f:Str) (g h:De->M W):MS:=fun δ=>Fg (do let y<-h δ;let x<-g δ;Aeq ok f x y) (fun _=>.nx) δ
section
variable {ok:Bool->Nat->Str->Bool}
theorem RFs.look (r:RFs Θ ρ H fs vs) (f:Str) (h:fs.lookup f=some w):∃v,vs.lookup f=some v/\RV Θ ρ H w v:=by
 unfold RFs at r;induction r with
 |nil=>cases h
 |@cons p q _ _ hh r ih=>
  obtain⟨p1,p2⟩:=p;obtain⟨q1,q2⟩:=q;obtain⟨e,rv⟩:=hh;cases (show p1=q1 from e);rw[lookup_cons] at h ⊢
  by_cases ef:(f==p1)=true
  .rw[ef] at h ⊢;cases h;exact⟨_,rfl,rv⟩
  .rw[not_eq_true] at ef;rw[ef] at h ⊢;exact ih h
theorem RFs.put (r:RFs Θ ρ H fs vs) (f:Str) (h:RV Θ ρ H w v):RFs Θ ρ H (Mv f w fs) (Mq f v vs):=by
 unfold RFs at r ⊢
 induction r with
 |nil=>exact .cons ⟨rfl,h⟩ .nil
 |@cons p q _ _ hh r ih=>
  obtain⟨p1,p2⟩:=p;obtain⟨q1,q2⟩:=q;obtain⟨e,rv⟩:=hh;cases (show p1=q1 from e);unfold Mv Mq;by_cases ef:p1=f
  .rw[if_pos ef,if_pos ef];exact .cons ⟨rfl,h⟩ r
  .rw[if_neg ef,if_neg ef];exact .cons ⟨rfl,rv⟩ ih
theorem RFs.len (r:RFs Θ ρ H fs vs):fs.length=vs.length:=paired_len r
theorem RFs.mono' (p:ρ <+: ρ') (t:Cy ρ ρ' H H') (r:RFs Θ ρ H fs vs):RFs Θ ρ' H' fs vs:=Paired.imp2 (fun _ _ z=>⟨z.1,z.2.mono p t⟩) r
theorem Api (hf:FOk Θ ok) (R:Rep Θ ρ S H) (hx:RV Θ ρ H x vx) (h:Aw Θ (RV Θ) ρ H (Ue ok f x S) Q E) :
  (∃a C dx fs v,vx=.ref a/\H a=some (.ins C dx fs)/\Cls Θ.K C/\Nf Θ.K C f/\fs.lookup f=some v/\Q v H)\/∃a C n d v,vx=.ref a/\H a=some (Su a (.ref C) (some (n,some d)))/\H d=some (.xd [(f,v)])/\XfK Θ.K C f/\Q v H:=by
 have ex:∀{c:Nat} {w:W},Aw Θ (RV Θ) ρ H (Ue ok f (.exn c w) S) Q E->Θ.xf c=some f/\XfK Θ.K (Θ.cl c) f/\Aw Θ (RV Θ) ρ H ((pure w:M W) S) Q E:=fun {c w} h=>by
  simp only[Ue] at h;by_cases hk:ok true c f=true
  .rw[if_pos hk] at h;exact⟨(hf.2 c f hk).1,(hf.2 c f hk).2,h⟩
  .rw[if_neg hk] at h;exact(show False from h).elim
 cases hx <;> try exact(show False from h).elim
 .rename_i n a hn;simp only[Ue] at h;split at h
  .rename_i c fs e1;obtain⟨a',ha',dx,vs,h2,r2⟩:=R.get e1;rw[hn] at ha';cases ha';split at h
   .rename_i hk;obtain⟨w,ew,h⟩:=Rc h;obtain⟨v,ev,rv⟩:=r2.look f ew;exact .inl ⟨a,_,dx,vs,v,rfl,h2,(hf.1 c f hk).1,(hf.1 c f hk).2,ev,h.now R rv⟩
   .exact(show False from h).elim
  .exact(show False from h).elim
 .rename_i x0 _ _;obtain⟨e1,_,_⟩:=ex h;rw[x0] at e1;cases e1
 .rename_i n x0 _ _ ha hd rv;obtain⟨e1,e2,h⟩:=ex h;rw[x0] at e1;cases e1;exact .inr ⟨_,_,1,_,_,rfl,ha,hd,e2,h.now R rv⟩
theorem Apj {Q:Unit->Hp->Prop} (hf:FOk Θ ok) (R:Rep Θ ρ S H) (hx:RV Θ ρ H x vx) (hy:RV Θ ρ H y vy) (h:Aw Θ (fun _ _ a b=>a=b) ρ H (Aeq ok f x y S) Q E) :
  ∃a C dx fs,vx=.ref a/\H a=some (.ins C dx fs)/\Cls Θ.K C/\Nf Θ.K C f/\fs.length < 1000/\Q () (upd H a (.ins C dx (Mq f vy fs))):=by
 cases hx <;> try exact(show False from h).elim
 rename_i n a hn;simp only[Aeq] at h;split at h
 .rename_i c fs e1;obtain⟨a',ha',dx,vs,h2,r2⟩:=R.get e1;rw[hn] at ha';cases ha';split at h
  .rename_i hk;obtain⟨hk,hl⟩:=and_eq_true_iff.mp hk;have t:Cy ρ ρ H (upd H a (.ins (Θ.cl c) dx (Mq f vy vs))):=Sx hn h2 (fun _ e=>by cases e) (fun _ _ e=>by cases e)
   refine⟨a,_,dx,vs,rfl,h2,(hf.1 c f hk).1,(hf.1 c f hk).2,by rw[<-r2.len];exact of_decide_eq_true hl,?_⟩
   exact h ρ _ () (prefix_refl _) t (R.write hn t ⟨dx,_,Bm,(r2.put f hy).mono' (prefix_refl _) t⟩) (by first|exact trivial|exact rfl)
  .exact(show False from h).elim
 .exact(show False from h).elim
end
section
variable {ok:Bool->Nat->Str->Bool}
theorem Beg (hK:X.K=Θ.K) (hf:FOk Θ ok) (ho:WE X o (tF Θ E g)) (hb:attributeBase o f X.env (eval o X.env)=eval o X.env):WE X (.Attribute o f pos) (tF Θ E (Xb ok f g)):=
 WE.weak ⟨Auh ho.un hb⟩ fun σ H Q ⟨ρ,S,δ,R,sl,q⟩=>by
  rw[hK];refine⟨ρ,S,δ,R,sl,(Aw.seq (Rel:=RV Θ) q).mono ?_⟩;rintro v H1 ⟨ρ1,S1,w,p1,t1,R1,rv,q1⟩;exact Api hf R1 rv q1
theorem Bar (hK:X.K=Θ.K) (hf:FOk Θ ok) (ho:WE X o (tF Θ E g)) (hv:WE X value (tF Θ E h)) (hs:swapsWith value (some (.Attribute o f pos')) pos.line X.env=pure false) :
  WS X (.Assign [.Attribute o f pos'] value pos) (tS Θ E (Yo ok f g h)):=WS.weak ⟨Ay6 ho.un hv.un hs⟩ fun D σ H ⟨ρ,S,δ,R,sl,q⟩=>by
 rw[hK];have q0:=Ds.lift (Rel:=fun _ _ a b=>a=b) sl q;refine⟨ρ,S,δ,R,sl.2,(Aw.seq (Rel:=RV Θ) q0).mono ?_⟩;rintro vy H1 ⟨ρ1,S1,y,p1,t1,R1,ry,q1⟩;refine⟨ρ1,S1,δ,R1,sl.2.mono p1 t1,(Aw.seq (Rel:=RV Θ) q1).mono ?_⟩;rintro vx H2 ⟨ρ2,S2,x,p2,t2,R2,rx,q2⟩;obtain⟨a,C,dx,fs,e1,e2,e3,e4,e5,ρ3,S3,_,p3,t3,R3,sl3,_,q3⟩:=Apj hf R2 rx (ry.mono p2 t2) q2;exact⟨a,C,dx,fs,e1,e2,e3,e4,e5,q3.nxt R3 sl3⟩
end
theorem Alx {CX:CXT} {P:Program} {w:World} {K:PySem.W.Frag} {mg:Str->Option Value} {base:Heap} {N:List Str} {aj:Str} {scope:Scope} {f:Addr} {cd:Value} {A:Around} {outer:List Env} {s:Shared} {H:Hp} {E:XK} {cm:Bool} :
  PassesOwn (model P w) (Ss CX P w K mg base N aj scope f cd A outer s H E cm).A (Ss CX P w K mg base N aj scope f cd A outer s H E cm).env (Ss CX P w K mg base N aj scope f cd A outer s H E cm).xe:=
 fun e s' h=>PassesOwn.leaving (Q₁:=fun e s''=>CX outer H s E e s'') (E₁:=fun e' s''=>CX outer H s E e' s'') e s' h
def Acv (c d:De->M Bool):De->M Bool:=fun δ=>do let x<-c δ;if x then d δ else pure false
def orT (c d:De->M Bool):De->M Bool:=fun δ=>do let x<-c δ;if x then pure true else d δ
def Ld (c:De->M Bool):De->M Bool:=fun δ=>do let x<-c δ;pure (!x)
section
variable {Θ:Th} {X:Cx} {a b c e:Expr} {rest:List Expr} {pos:Pos} {E:L2.St->XK} {f g:De->M W} {cf df:De->M Bool}
theorem WW.weak (h:WW X e t) (k:∀σ H Q,t' σ H Q->t σ H Q):WW X e t':=⟨fun wh aa s σ H Q I q=>h.un wh aa s σ H Q I (k σ H Q q)⟩
theorem Bas (ha:WT X a (tFb Θ E cf)) (hb:WW X (.BoolOp .And (b::rest) pos) (tFb Θ E df)):WW X (.BoolOp .And (a::b::rest) pos) (tFb Θ E (Acv cf df)):=WW.weak (Bgc ha hb) fun σ H Q ⟨ρ,S,δ,R,sl,q⟩=>by
 refine⟨ρ,S,δ,R,sl,(Aw.seq (Rel:=fun _ _ a b=>a=b) q).mono ?_⟩;rintro v H1 ⟨ρ1,S1,w,p1,t1,R1,rfl,q1⟩;cases w with
 |true=>exact L2.Ag5 ⟨ρ1,S1,δ,R1,sl.mono p1 t1,q1⟩
 |false=>exact L2.Ag4 (Aw.now (Rel:=fun _ _ a b=>a=b) q1 R1 rfl)
theorem Beh (ha:WT X a (tFb Θ E cf)) (hb:WW X (.BoolOp .Or (b::rest) pos) (tFb Θ E df)):WW X (.BoolOp .Or (a::b::rest) pos) (tFb Θ E (orT cf df)):=WW.weak (tor ha hb) fun σ H Q ⟨ρ,S,δ,R,sl,q⟩=>by
 refine⟨ρ,S,δ,R,sl,(Aw.seq (Rel:=fun _ _ a b=>a=b) q).mono ?_⟩;rintro v H1 ⟨ρ1,S1,w,p1,t1,R1,rfl,q1⟩;cases w with
 |true=>exact L2.Ag5 (Aw.now (Rel:=fun _ _ a b=>a=b) q1 R1 rfl)
 |false=>exact L2.Ag4 ⟨ρ1,S1,δ,R1,sl.mono p1 t1,q1⟩
theorem Bat (ha:WT X a (tFb Θ E cf)):WT X (.UnaryOp .Not a pos) (tFb Θ E (Ld cf)):=WT.weak (Bga ha) fun σ H Q ⟨ρ,S,δ,R,sl,q⟩=>by
 refine⟨ρ,S,δ,R,sl,(Aw.seq (Rel:=fun _ _ a b=>a=b) q).mono ?_⟩;rintro v H1 ⟨ρ1,S1,w,p1,t1,R1,rfl,q1⟩;exact Aw.now (Rel:=fun _ _ a b=>a=b) q1 R1 rfl
theorem Apk (h:WE X e (tF Θ E f)) (he:∀whole,isTrue e X.env whole=(do let v<-whole;standAt e.pos;holding [v] (truthy v))):WT X e (tFb Θ E (Ay f)):=Ahh (fun _ _ _ q=>q) (Bgb h he)
end
def O4 (c:Nat) (gs:De->M (List W)):MS:=fun δ=>Fg (gs δ) (fun ws δ S=>if ws.length<=big then .ex (c,.non) δ S else .bad) δ
section
theorem Apl {c:Nat} (hxf:Θ.xf c=none) (hx:Aad X.K (Θ.cl c)) (hm:X.mg x=some (.ref (Θ.cl c))) (hc:X.calm=true) (hR:Raises X E) (ha:WA X (e::es) (tFs Θ (fun _=>E) gs)) (hg:X.env.kindOf x=some .globalImplicit)
  (hd:(x==("__debug__":Str))=false) (he:starEach (e::es) X.env=(false,eval e X.env)::starEach es X.env) (hpl:(backTo cpos (starEach es X.env)).any (·.1)=false) :
  WS X (.Raise (some (.Call (.Name x p) (e::es) [] cpos)) none pos) (tS Θ (fun _=>E) (O4 c gs)):=WS.weak (Az0 hx hm hc hR ha hg hd he hpl) fun D σ H ⟨ρ,S,δ,R,sl,q⟩=>by
 refine⟨ρ,S,δ,R,sl.2,(Ds.lift (Rel:=RVs Θ) sl q).mono ?_⟩;rintro vs H1 ⟨ρ1,S1,ws,p1,t1,R1,sl1,rvs,q1⟩;by_cases hz:ws.length<=big
 .rw[if_pos hz] at q1;have z:=q1 ρ1 H1 σ (prefix_refl _) (Cy.refl _ _) R1 sl1;unfold XP at z;dsimp only at z;rw[hxf] at z;exact⟨Km (by rw[<-rvs.length];exact hz),_,z⟩
 .rw[if_neg hz] at q1;exact q1.elim
end
def R0 (kvs:List (Key×W)) (k:Key) (w:W):List (Key×W):=if kvs.any (fun p=>decide (p.1=k)) then kvs.map (fun p=>if p.1=k then (p.1,w) else p) else kvs ++ [(k,w)]
def Aa7 (x y v:W):M Unit:=match x with
 |.ref n=>fun S=>match S[n]? with
  |some (.dct kvs)=>match Aaf y with
   |some k=>if kvs.length < big then .ok () (S.set n (.dct (R0 kvs k v))) else .bad
   |none=>.bad
  |_=>.bad
 |_=>bad
def Yp (f g h:De->M W):MS:=fun δ=>Fg (do let v<-h δ;let x<-f δ;let y<-g δ;Aa7 x y v) (fun _=>.nx) δ
section
theorem RKV.app (r:RKV Θ ρ H kvs vs) (t:RKV Θ ρ H ks us):RKV Θ ρ H (kvs ++ ks) (vs ++ us):=by
 unfold RKV at r t ⊢
 induction r with
 |nil=>exact t
 |cons h r ih=>exact .cons h ih
theorem RKV.put (r:RKV Θ ρ H kvs vs) (k:Key) (h:RV Θ ρ H w v):RKV Θ ρ H (R0 kvs k w) (putK vs k v):=by
 have ea:kvs.any (fun p=>decide (p.1=k))=vs.any (fun p=>decide (p.1=k)):=by
  unfold RKV at r;induction r with
  |nil=>rfl
  |cons hh r ih=>rw[any_cons,any_cons,ih,hh.1]
 unfold R0 putK;rw[ea];split
 .rename_i hany;clear ea hany;unfold RKV at r ⊢
  induction r with
  |nil=>exact .nil
  |@cons p q _ _ hh r ih=>
   rw[map_cons,map_cons];refine .cons ?_ ih;by_cases e:p.1=k
   .rw[if_pos e,if_pos (hh.1.symm.trans e)];exact⟨hh.1,h⟩
   .rw[if_neg e,if_neg (fun z=>e (hh.1.trans z))];exact hh
 .exact r.app (.cons ⟨rfl,h⟩ .nil)
theorem RKV.mono' (p:ρ <+: ρ') (t:Cy ρ ρ' H H') (r:RKV Θ ρ H fs vs):RKV Θ ρ' H' fs vs:=Paired.imp2 (fun _ _ z=>⟨z.1,z.2.mono p t⟩) r
theorem Apm (R:Rep Θ ρ S H) (hx:RV Θ ρ H x vx) (hy:RV Θ ρ H y vy) (hz:RV Θ ρ H z vz) (h:Aw Θ (fun _ _ a b=>a=b) ρ H (Aa7 x y z S) Q E) :
  ∃a H',vx=.ref a/\Ak6 H a vy vz H'/\Q () H':=by
 cases hx <;> try exact(show False from h).elim
 rename_i n a hn;simp only[Aa7] at h;split at h
 .rename_i kvs e1;obtain⟨a',ha',vs,h2,r2⟩:=R.get e1;rw[hn] at ha';cases ha';split at h
  .rename_i k ek;rw[Acq hy ek];split at h
   .rename_i hl;have el:kvs.length=vs.length:=paired_len r2;have t:Cy ρ ρ H (upd H a (.dK (putK vs k vz))):=Sx hn h2 (fun _ e=>by cases e) (fun _ _ e=>by cases e)
    refine⟨a,_,rfl,Ak6.k h2 (by rw[<-el];exact lt_of_lt_of_le hl (by decide)),?_⟩
    exact h ρ _ () (prefix_refl _) t (R.write hn t ⟨_,Bm,(r2.put k hz).mono' (prefix_refl _) t⟩) (by first|exact trivial|exact rfl)
   .exact(show False from h).elim
  .exact(show False from h).elim
 .exact(show False from h).elim
end
section
theorem Avb (hu:X.A.units+64 < cLine) (ho:WE X o (tF Θ E f)) (hi:WE X b (tF Θ E g)) (hv:WE X v (tF Θ E h)) (hs:swapsWith v (some (.Subscript o b pos')) pos.line X.env=pure false) :
  WS X (.Assign [.Subscript o b pos'] v pos) (tS Θ E (Yp f g h)):=WS.weak (Bdx (by omega) ho hi hv hs) fun D σ H ⟨ρ,S,δ,R,sl,q⟩=>by
 have q0:=Ds.lift (Rel:=fun _ _ a b=>a=b) sl q;refine⟨ρ,S,δ,R,sl.2,(Aw.seq (Rel:=RV Θ) q0).mono ?_⟩;rintro vz H1 ⟨ρ1,S1,z,p1,t1,R1,rz,q1⟩;refine⟨ρ1,S1,δ,R1,sl.2.mono p1 t1,(Aw.seq (Rel:=RV Θ) q1).mono ?_⟩;rintro vx H2 ⟨ρ2,S2,x,p2,t2,R2,rx,q2⟩;refine⟨ρ2,S2,δ,R2,(sl.2.mono p1 t1).mono p2 t2,(Aw.seq (Rel:=RV Θ) q2).mono ?_⟩;rintro vy H3 ⟨ρ3,S3,y,p3,t3,R3,ry,q3⟩;obtain⟨a,H',e1,e2,ρ4,S4,_,p4,t4,R4,sl4,_,q4⟩:=Apm R3 (rx.mono p3 t3) ry ((rz.mono p2 t2).mono p3 t3) q3;exact⟨a,H',e1,e2,q4.nxt R4 sl4⟩
end
def Bw (n:Nat) (ws:List W):De:=ws.map some ++ List.replicate (n - ws.length) none
def Ck (k n:Nat) (b:MS):List W->M W:=fun ws S=>if ws.length=k then match b (Bw n ws) S with
 |.nx _ S1=>.ok .non S1
 |.rt w S1=>.ok w S1
 |.ex c _ S1=>.exc c S1
 |_=>.bad else .bad
section
theorem Aly (r:RVs Θ ρ H ws vs):RSs Θ ρ H (Bw N.length ws) (L2.start N vs):=by
 have hl:=r.length;refine⟨by simp only[Bw,L2.start,length_append,length_map,length_replicate,hl],fun i u e=>?_⟩
 have hi:i < ws.length:=by
  by_cases hi:i < ws.length
  .exact hi
  .unfold Bw at e;rw[getElem?_append_right (by rw[length_map];omega),List.getElem?_replicate] at e
   split at e <;> cases e
 unfold Bw at e;rw[getElem?_append_left (by rw[length_map];exact hi),getElem?_map] at e
 obtain⟨u',e1,e2⟩:=map_eq_some_iff.mp e;cases e2;obtain⟨v,ev,rv⟩:=r.get e1;refine⟨v,?_,rv⟩;unfold L2.start;rw[getElem?_append_left (by rw[length_map,<-hl];exact hi),getElem?_map,ev]
 rfl
theorem Bei {Θ:Th} {P:Program} {w:World} {K:PySem.W.Frag} {mg:Str->Option Value} {base:Heap} {cm:Bool} {x aj:Str} {st:Stmt} {f:Addr} {fd:FuncData} {N ps:List Str} {k:Nat} {b:MS} (F:Fun K x aj st f fd) (Sc:Fj N ps (Ak st))
  (hbody:∀(cdv:Value) (A:Around) (outer:List Env) (s:Shared) (H:Hp) (E:XK),Hc k (A.deeper (envOfC aj (Ak st) s.heap.objs.size f cdv)) cm->
   WSs (Ss (CXo P w) P w K mg base N aj (Ak st) f cdv A outer s H E cm) (Aq st) (tS Θ (fun _=>E) b)):Gw P w K mg base (CXo P w) (k+1) f fd ps (spF Θ (Ck ps.length N.length b)) cm:=by
 refine Fun.okW F Sc (fun vs H Q E h=>?_) fun cdv A outer s H vs Q E rm h=>⟨_,hbody cdv A outer s H E rm,?_⟩
 .obtain⟨ρ,S,ws,R,r,q⟩:=h;unfold Ck at q;by_cases hz:ws.length=ps.length
  .exact r.length.symm.trans hz
  .rw[if_neg hz] at q;exact q.elim
 .obtain⟨ρ,S,ws,R,r,q⟩:=h;unfold Ck at q;by_cases hz:ws.length=ps.length
  .rw[if_pos hz] at q;refine⟨ρ,S,Bw N.length ws,R,Aly r,?_⟩;cases e:b (Bw N.length ws) S with
   |nx δ S1=>rw[e] at q;exact fun ρ1 H1 σ1 p1 t1 R1 _=>q ρ1 H1 .non p1 t1 R1 .non
   |rt u S1=>rw[e] at q;exact fun ρ1 H1 v p1 t1 R1 rv=>q ρ1 H1 v p1 t1 R1 rv
   |ex c δ S1=>rw[e] at q;exact fun ρ1 H1 σ1 p1 t1 R1 _=>q ρ1 H1 p1 t1 R1
   |bk δ S1=>rw[e] at q;exact q.elim
   |ct δ S1=>rw[e] at q;exact q.elim
   |bad=>rw[e] at q;exact q.elim
  .rw[if_neg hz] at q;exact q.elim
end
def Kp (op op':CmpOp) (f g h:De->M W):De->M W:=fun δ=>do
 let x<-f δ;let y<-g δ;let z<-Jx op x y
 asB z fun b=>if b then do let u<-h δ;Jx op' y u else pure (.bl false)
section
theorem Aa8 (o:Bah Θ X op) (o':Bah Θ X op'):∀σ H Q,tF Θ E (Kp op op' f g h) σ H Q->Xz o.r o'.r (tF Θ E f) (tF Θ E g) (tF Θ E h) σ H Q:=by
 rintro σ H Q ⟨ρ,S,δ,R,sl,q⟩;refine⟨ρ,S,δ,R,sl,(Aw.seq (Rel:=RV Θ) q).mono ?_⟩;rintro vx H1 ⟨ρ1,S1,x,p1,t1,R1,rx,q1⟩;refine⟨ρ1,S1,δ,R1,sl.mono p1 t1,(Aw.seq (Rel:=RV Θ) q1).mono ?_⟩;rintro vy H2 ⟨ρ2,S2,y,p2,t2,R2,ry,q2⟩;have q3:=Aw.seq (Rel:=RV Θ) q2;refine o.by_ ρ2 S2 H2 x y vx vy _ (E σ) R2 (rx.mono p2 t2) ry (q3.mono ?_);rintro vz H3 ⟨ρ3,S3,z,p3,t3,R3,rz,q4⟩;obtain⟨k,rfl,q5⟩:=Yk rz q4;refine⟨k,rfl,?_⟩;cases k with
 |false=>exact L2.Ag4 (q5.now R3 (.bl _))
 |true=>
  refine L2.Ag5 ⟨ρ3,S3,δ,R3,((sl.mono p1 t1).mono p2 t2).mono p3 t3,(Aw.seq (Rel:=RV Θ) q5).mono ?_⟩;rintro vu H4 ⟨ρ4,S4,u,p4,t4,R4,ru,q6⟩;exact o'.by_ ρ4 S4 H4 y u vy vu Q (E σ) R4 ((ry.mono p3 t3).mono p4 t4) ru q6
theorem Avc (hK:X.K=Θ.K) (hu:X.A.units+64 < cLine) (ha:WE X a (tF Θ E f)) (hb:WE X b (tF Θ E g)) (hc:WE X c (tF Θ E h)) (hm:lastMarks [op,op'] [b,c]=false) :
  WE X (.Compare a [op,op'] [b,c] pos) (tF Θ E (Kp op op' f g h)):=by
 obtain⟨o⟩:=Als Θ X hK hu op;obtain⟨o'⟩:=Als Θ X hK hu op';exact WE.weak (Azs o.ok o'.ok ha hb hc hm) (Aa8 o o')
theorem Apn (hK:X.K=Θ.K) (hu:X.A.units+64 < cLine) (ha:WE X a (tF Θ E f)) (hb:WE X b (tF Θ E g)) (hc:WE X c (tF Θ E h)) (hm:lastMarks [op,op'] [b,c]=false) :
  WT X (.Compare a [op,op'] [b,c] pos) (tFb Θ E (Ay (Kp op op' f g h))):=by
 obtain⟨o⟩:=Als Θ X hK hu op;obtain⟨o'⟩:=Als Θ X hK hu op';exact Ahh (Aa8 o o') (Azv o.ok o'.ok ha hb hc hm)
end
def noX {α:Type} (m:M α):M α:=fun S=>match m S with
 |.ok a S1=>.ok a S1
 |_=>.bad
abbrev E0s:L2.St->XK:=fun _ _ _ _=>False
def Oo (k:Nat) (cap:List Nat) (δ:De):De:=List.replicate k none ++ cap.map fun j=>δ.getD j none
def Hx (s:Tg) (t:De->M Bool) (e:De->M W):List W->De->List W->M (List W)
 |[],_,acc=>pure acc
 |w::ws,δ,acc=>match s w δ with
  |none=>bad
  |some δ1=>do
   let b<-noX (t δ1)
   if b then do
    let y<-noX (e δ1)
    if acc.length < big then Hx s t e ws δ1 (acc ++ [y]) else bad
   else Hx s t e ws δ1 acc
section
theorem Rh {α β γ:Type} (m:M α) (f:α->M β) (k:β->M γ) (S:Store):((m >>= f) >>= k) S=(m >>= fun a=>f a >>= k) S:=by
 show M.bind (M.bind m f) k S=M.bind m (fun a=>M.bind (f a) k) S;unfold M.bind;cases m S <;> rfl
theorem Aw.seqB {α β γ δ':Type} {Rel:List Addr->Hp->α->β->Prop} {Rel2:List Addr->Hp->γ->δ'->Prop} {m:M α} {f:α->M γ} {Q:δ'->Hp->Prop} (h:Aw Θ Rel2 ρ0 H1 ((noX m >>= f) S) Q E) (F:XK) :
  Aw Θ Rel ρ H (m S) (fun v H2=>∃ρ2 S2 w,ρ <+: ρ2/\Cy ρ ρ2 H H2/\Rep Θ ρ2 S2 H2/\Rel ρ2 H2 w v/\Aw Θ Rel2 ρ0 H1 (f w S2) Q E) F:=by
 have h:Aw Θ Rel2 ρ0 H1 (M.bind (noX m) f S) Q E:=h;unfold M.bind noX at h;cases e:m S with
 |bad=>rw[e] at h;exact h
 |exc c S1=>rw[e] at h;exact(show False from h).elim
 |ok w S1=>
  rw[e] at h;exact fun ρ1 H1 v p t r rw'=>⟨ρ1,S1,w,p,t,r,rw',h⟩
end
def Aer:HO->Bool
 |.lst _=>true
 |.dK _=>true
 |_=>false
mutual
theorem RV.grow {Θ:Th} {ρ ρ':List Addr} {H:Hp} (p:ρ <+: ρ') (n:∀b,b∈ρ'->b∈ρ\/∃o,H b=some o/\Aer o=true):∀{w:W} {v:V},RV Θ ρ H w v->RV Θ ρ' H w v
 |_,_,.non=>.non
 |_,_,.bl b=>.bl b
 |_,_,.int i=>.int i
 |_,_,.str x=>.str x
 |_,_,.tup h r=>.tup h (RVs.grow p n r)
 |_,_,.scr h=>.scr h
 |_,_,.ty n=>.ty n
 |_,_,.cls c=>.cls c
 |_,_,.exn x m h=>.exn x (fun z=>by
  rcases n _ z with q|⟨o,q,mu⟩
  .exact m q
  .rw[h] at q;cases q;cases mu) h
 |_,_,.exf x m m' h h' r=>.exf x (fun z=>by
  rcases n _ z with q|⟨o,q,mu⟩
  .exact m q
  .rw[h] at q;cases q;cases mu) (fun z=>by
  rcases n _ z with q|⟨o,q,mu⟩
  .exact m' q
  .rw[h'] at q;cases q;cases mu) h h' (RV.grow p n r)
 |_,_,.ref h=>.ref (by
  obtain⟨r,rfl⟩:=p;obtain⟨hl,e⟩:=List.getElem?_eq_some_iff.mp h;rw[getElem?_append_left hl];exact h)
theorem RVs.grow {Θ:Th} {ρ ρ':List Addr} {H:Hp} (p:ρ <+: ρ') (n:∀b,b∈ρ'->b∈ρ\/∃o,H b=some o/\Aer o=true):∀{ws:List W} {vs:List V},RVs Θ ρ H ws vs->RVs Θ ρ' H ws vs
 |_,_,.nil=>.nil
 |_,_,.cons h r=>.cons (RV.grow p n h) (RVs.grow p n r)
end
section
theorem Mu.grow (p:ρ <+: ρ') (n:∀b,b∈ρ'->b∈ρ\/∃o,H b=some o/\Aer o=true) (h:Mu Θ ρ H a c):Mu Θ ρ' H a c:=by
 cases c with
 |lst ws=>obtain⟨vs,h,r⟩:=h;exact⟨vs,h,r.grow p n⟩
 |dct ws=>obtain⟨vs,h,r⟩:=h;exact⟨vs,h,Paired.imp2 (fun _ _ z=>⟨z.1,z.2.grow p n⟩) r⟩
 |ins c ws=>obtain⟨dx,vs,h,r⟩:=h;exact⟨dx,vs,h,Paired.imp2 (fun _ _ z=>⟨z.1,z.2.grow p n⟩) r⟩
theorem Rep.take (R:Rep Θ ρ S H) (hD:D∉ρ) (h:H D=some (.lst vs)) (r:RVs Θ ρ H acc vs):Rep Θ (ρ ++ [D]) (S ++ [.lst acc]) H where
 len:=by rw[length_append,length_append,R.len];rfl
 nd:=by
  rw[nodup_append];refine⟨R.nd,by simp,fun a ha b hb=>?_⟩
  obtain rfl:b=D:=by simpa using hb
  rintro rfl;exact hD ha
 at_:=fun n a d e1 e2=>by
  by_cases hn:n < ρ.length
  .rw[getElem?_append_left hn] at e1;rw[getElem?_append_left (by rw[<-R.len];exact hn)] at e2
   exact(R.at_ n a d e1 e2).grow (prefix_append _ _) (fun b hb=>by
    rcases mem_append.mp hb with z|z
    .exact .inl z
    .obtain rfl:=mem_singleton.mp z;exact .inr ⟨_,h,rfl⟩)
  .have hl:=(List.getElem?_eq_some_iff.mp e1).1;rw[length_append,length_singleton] at hl;obtain rfl:n=ρ.length:=by omega
   rw[getElem?_append_right (le_refl _),sub_self] at e1;rw[R.len,getElem?_append_right (le_refl _),sub_self] at e2;obtain rfl:D=a:=by simpa using e1
   obtain rfl:Cell.lst acc=d:=by simpa using e2
   exact⟨vs,h,r.grow (prefix_append _ _) (fun b hb=>by
    rcases mem_append.mp hb with z|z
    .exact .inl z
    .obtain rfl:=mem_singleton.mp z;exact .inr ⟨_,h,rfl⟩)⟩
theorem Avd (own:List Str) (cap:List Nat) (h:RSl Θ ρ H δ σ):RSs Θ ρ H (Oo own.length cap δ) (Aog own cap σ):=by
 refine⟨by simp[Oo,Aog],fun i w e=>?_⟩
 unfold Oo at e;unfold Aog;by_cases hi:i < own.length
 .rw[getElem?_append_left (by rw[length_replicate];exact hi),List.getElem?_replicate] at e
  split at e <;> cases e
 .rw[getElem?_append_right (by rw[length_replicate];omega),length_replicate,getElem?_map] at e
  rw[getElem?_append_right (by rw[length_replicate];omega),length_replicate,getElem?_map]
  obtain⟨j,e1,e2⟩:=map_eq_some_iff.mp e;rw[e1];rw[getD_eq_getElem?_getD] at e2;cases ej:δ[j]? with
  |none=>rw[ej] at e2;cases e2
  |some o=>
   rw[ej] at e2;have e2:o=some w:=e2;subst e2;obtain⟨v,h1,h2⟩:=h j w ej;exact⟨v,by rw[Option.map_some,getD_eq_getElem?_getD,h1];rfl,h2⟩
end
mutual
theorem RV.keep {Θ:Th} {ρ:List Addr} {H H':Hp} (t:∀b o,H b=some o->Aer o=false->H' b=some o):∀{w:W} {v:V},RV Θ ρ H w v->RV Θ ρ H' w v
 |_,_,.non=>.non
 |_,_,.bl b=>.bl b
 |_,_,.int i=>.int i
 |_,_,.str x=>.str x
 |_,_,.tup h r=>.tup (t _ _ h rfl) (RVs.keep t r)
 |_,_,.ty n=>.ty n
 |_,_,.cls c=>.cls c
 |_,_,.exn x m h=>.exn x m (t _ _ h rfl)
 |_,_,.exf x m m' h h' r=>.exf x m m' (t _ _ h rfl) (t _ _ h' rfl) (RV.keep t r)
 |_,_,.scr h=>.scr (by
  rcases h with ⟨o,h⟩|h
  .exact .inl ⟨o,t _ _ h rfl⟩
  .exact .inr h)
 |_,_,.ref h=>.ref h
theorem RVs.keep {Θ:Th} {ρ:List Addr} {H H':Hp} (t:∀b o,H b=some o->Aer o=false->H' b=some o):∀{ws:List W} {vs:List V},RVs Θ ρ H ws vs->RVs Θ ρ H' ws vs
 |_,_,.nil=>.nil
 |_,_,.cons h r=>.cons (RV.keep t h) (RVs.keep t r)
end
section
def Mw (H:Hp) (D:Addr):Prop:=H D=none\/∃o,H D=some o/\Aer o=true
theorem Mw.t (h:Mw H D):∀b xs,H b=some (.tup xs)->upd H D o b=some (.tup xs):=fun b xs q=>by
 rw[Ax (by rintro rfl;rcases h with h|⟨o,h,m⟩ <;> rw[h] at q <;> cases q;cases m)];exact q
theorem Mw.f (h:Mw H D):∀b ob u,H b=some (.frz ob u)->upd H D o b=some (.frz ob u):=fun b ob u q=>by
 rw[Ax (by rintro rfl;rcases h with h|⟨o,h,m⟩ <;> rw[h] at q <;> cases q;cases m)];exact q
theorem Mw.g (h:Mw H D):∀b o,H b=some o->Aer o=false->upd H D o' b=some o:=fun b o q n=>by
 rw[Ax (by
  rintro rfl;rcases h with h|⟨u,h,m⟩ <;> rw[h] at q
  .cases q
  .cases q;rw[n] at m;cases m)];exact q
theorem Rep.off (R:Rep Θ ρ S H) (hD:D∉ρ) (h:Mw H D):Rep Θ ρ S (upd H D o) where
 len:=R.len
 nd:=R.nd
 at_:=fun n a c e1 e2=>by
  have ne:a≠D:=by
   rintro rfl;exact hD (mem_of_getElem? e1)
  have q:=R.at_ n a c e1 e2;cases c with
  |lst ws=>obtain⟨vs,h1,r⟩:=q;exact⟨vs,(Ax ne).trans h1,r.keep h.g⟩
  |dct ws=>obtain⟨vs,h1,r⟩:=q;exact⟨vs,(Ax ne).trans h1,Paired.imp2 (fun _ _ z=>⟨z.1,z.2.keep h.g⟩) r⟩
  |ins c ws=>obtain⟨dx,vs,h1,r⟩:=q;exact⟨dx,vs,(Ax ne).trans h1,Paired.imp2 (fun _ _ z=>⟨z.1,z.2.keep h.g⟩) r⟩
theorem RSs.off (r:RSs Θ ρ H δ σ) (h:Mw H D):RSs Θ ρ (upd H D o) δ σ:=⟨r.1,fun i w e=>by
 obtain⟨v,h1,h2⟩:=r.2 i w e;exact⟨v,h1,h2.keep h.g⟩⟩
theorem Cy.off (t:Cy ρ0 ρ H1 H) (h1:H1 D=none) (h:Mw H D):Cy ρ0 ρ H1 (upd H D o) where
 t:=fun b xs q=>h.t b xs (t.t b xs q)
 f:=fun b ob u q=>h.f b ob u (t.f b ob u q)
 k:=fun b ob q m=>by rw[Ax (by rintro rfl;rw[h1] at q;cases q)];exact t.k b ob q m
 n:=t.n
theorem Apo (gk:GOk Θ s g) (jk:JOk Θ J all ρ0 H1) (R:Rep Θ ρ0 S H1) (sl:RSs Θ ρ0 H1 δ σ) (hD:H1 D=none) (q:Aw Θ (RV Θ) ρ0 H1 ((Hx s tf ef all δ [] >>= Ce) S) Q E) :
  Ai5 J g (tFb Θ E0s tf) (tF Θ E0s ef) D σ H1 Q:=by
 have nD:D∉ρ0:=fun z=>by
  obtain⟨o,ho⟩:=R.tracked z;rw[hD] at ho;cases ho
 refine⟨fun i m acc σ' H'=>∃ρ S δ' ws,i<=all.length/\ρ0 <+: ρ/\Cy ρ0 ρ H1 H'/\D∉ρ/\Rep Θ ρ S H'/\RSs Θ ρ H' δ' σ'/\RVs Θ ρ H' ws acc/\m=(all.drop i).length/\Aw Θ (RV Θ) ρ0 H1 ((Hx s tf ef (all.drop i) δ' ws >>= Ce) S) Q E,
  ⟨_,ρ0,S,δ,[],zero_le _,prefix_refl _,(Cy.refl _ _).off hD (.inl hD),nD,R.off nD (.inl hD),sl.off (.inl hD),.nil,rfl,q⟩,?_⟩
 rintro i m acc σ' H' ⟨ρ,S,δ',ws,li,p,t,mD,R',sl',ra,rfl,q'⟩ hacc;by_cases hi:i < all.length
 .obtain⟨go,yl⟩:=jk.go ρ H' i p t hi;refine .inr ⟨go,fun x H'' hy=>?_⟩;obtain⟨ty,Ry,w,ew,rv⟩:=yl x H'' hy;have R':=Ry _ R';have sl':=sl'.mono (prefix_refl _) ty;have t:=t.trans ty;have ra:=ra.mono (prefix_refl _) ty;have hacc:=ty.k D _ hacc mD;have ed:all.drop i=w::all.drop (i+1):=by
   obtain⟨hl,e⟩:=List.getElem?_eq_some_iff.mp ew;rw[<-e];exact drop_eq_getElem_cons hl
  have hm:(all.drop (i+1)).length < (all.drop i).length:=by rw[length_drop,length_drop];omega
  rw[ed] at q';unfold Hx at q';cases es:s w δ' with
  |none=>simp only[es] at q';exact(show False from q').elim
  |some δ2=>
   simp only[es] at q';refine gk ρ S H'' w x δ' δ2 σ' _ R' sl' rv es fun σ2 sl2=>⟨ρ,S,δ2,R',sl2.2,?_⟩;rw[Rh] at q';refine(Aw.seqB (Rel:=fun _ _ a b=>a=b) (ρ:=ρ) (H:=H'') q' _).mono ?_;rintro b H3 ⟨ρ3,S3,b',p3,t3,R3,e3,q3⟩;have e3:b'=b:=e3;subst e3;have out:∀{ρa ρb:List Addr} {Ha Hb:Hp},D∉ρa->Ha D=some (.lst acc)->Cy ρa ρb Ha Hb->D∉ρb/\Hb D=some (.lst acc):=fun {ρa ρb Ha Hb} m1 m2 m3=>by
    refine⟨fun z=>?_,m3.k D _ m2 m1⟩;rcases m3.n D z with z|z
    .exact m1 z
    .rw[m2] at z;cases z
   obtain⟨mD3,hD3⟩:=out mD hacc t3;cases b' with
   |false=>
    rw[if_neg Bool.false_ne_true] at q3 ⊢
    exact⟨hD3,_,hm,ρ3,S3,δ2,ws,hi,p.trans p3,t.trans t3,mD3,R3,sl2.mono p3 t3,ra.mono p3 t3,rfl,q3⟩
   |true=>
    rw[if_pos rfl] at q3 ⊢
    rw[Rh] at q3;refine⟨ρ3,S3,δ2,R3,(sl2.mono p3 t3).2,(Aw.seqB (Rel:=RV Θ) (ρ:=ρ3) (H:=H3) q3 _).mono ?_⟩;rintro y H4 ⟨ρ4,S4,yw,p4,t4,R4,ry,q4⟩;obtain⟨mD4,hD4⟩:=out mD3 hD3 t4;by_cases hz:ws.length < big
    .rw[if_pos hz] at q4;have fl:Mw H4 D:=.inr ⟨_,hD4,rfl⟩;have ra4:=(ra.mono p3 t3).mono p4 t4;refine⟨hD4,by rw[<-ra.length];exact lt_of_lt_of_le hz (by decide),_,hm,ρ4,S4,δ2,ws ++ [yw],hi,(p.trans p3).trans p4,((t.trans t3).trans t4).off hD fl,mD4,R4.off mD4 fl,((sl2.mono p3 t3).mono p4 t4).off fl,?_,rfl,q4⟩
     exact(ra4.append (.cons ry .nil)).keep fl.g
    .rw[if_neg hz] at q4;exact(show False from q4).elim
 .rw[drop_eq_nil_of_le (by omega)] at q'
  refine .inl ⟨jk.stop ρ H' i t (by omega),?_⟩
  have q2:Aw Θ (RV Θ) ρ0 H1 (Ce ws S) Q E:=q';simp only[Ce] at q2;split at q2
  .refine q2 (ρ ++ [D]) H' (.ref D) (p.trans (prefix_append _ _)) ⟨t.t,t.f,t.k,fun b hb=>?_⟩ (R'.take mD hacc ra) (.ref ?_)
   .rcases mem_append.mp hb with z|z
    .exact t.n b z
    .obtain rfl:b=D:=by simpa using z
     exact .inr hD
   .rw[<-R'.len];exact Li
  .exact(show False from q2).elim
end
def Gs (s:Tg) (t:De->M Bool) (e:De->M W) (n:Nat):Nat->Nat->De->List W->M (List W)
 |0,_,_,_=>bad
 |m+1,i,δ,acc=>fun S=>match S[n]? with
  |some (.lst ws)=>match ws[i]? with
   |none=>.ok acc S
   |some w=>match s w δ with
    |none=>.bad
    |some δ1=>(noX (t δ1) >>= fun b=>if b=true then noX (e δ1) >>= fun y=>if acc.length < big then Gs s t e n m (i+1) δ1 (acc ++ [y]) else bad else Gs s t e n m (i+1) δ1 acc) S
  |_=>.bad
def J5 (s:Tg) (t:De->M Bool) (e:De->M W) (gt:Store->Nat->Option (Option W)):Nat->Nat->De->List W->M (List W)
 |0,_,_,_=>bad
 |m+1,i,δ,acc=>fun S=>match gt S i with
  |none=>.bad
  |some none=>.ok acc S
  |some (some w)=>match s w δ with
   |none=>.bad
   |some δ1=>(noX (t δ1) >>= fun b=>if b=true then noX (e δ1) >>= fun y=>if acc.length < big then J5 s t e gt m (i+1) δ1 (acc ++ [y]) else bad else J5 s t e gt m (i+1) δ1 acc) S
def zlG (n m:Nat):Store->Nat->Option (Option W):=fun S i=>match S[n]?,S[m]? with
 |some (.lst ws),some (.lst us)=>match ws[i]?,us[i]? with
  |some w,some u=>some (some (.tup [w,u]))
  |_,_=>some none
 |_,_=>none
def Df (k:Nat) (cap:List Nat) (src:De->M Src) (s:Tg) (t:De->M Bool) (e:De->M W):De->M W:=fun δ=>do
 let z<-src δ
 match z with
 |.fix ws=>Hx s t e ws (Oo k cap δ) [] >>= Ce
 |.liv n=>fun S=>match S[n]? with
  |some (.lst ws)=>(Gs s t e n (ws.length+1) 0 (Oo k cap δ) [] >>= Ce) S
  |_=>.bad
 |.zl n m=>fun S=>match S[n]? with
  |some (.lst ws)=>(J5 s t e (zlG n m) (ws.length+1) 0 (Oo k cap δ) [] >>= Ce) S
  |_=>.bad
section
def after {α β:Type} (f:α->M β):R α->R β
 |.ok a S1=>f a S1
 |.exc c S1=>.exc c S1
 |.bad=>.bad
theorem Hr {α β:Type} {m:M α} {f:α->M β} {r:R α} (e:m S=r):(m >>= f) S=after f r:=by
 show M.bind m f S=_;unfold M.bind after;rw[e]
 all_goals (cases r <;> rfl)
theorem App {K:PySem.W.Frag} {n f:Nat} {a D:Addr} {δ:De} {σ:L2.St} (gk:GOk Θ s g) (hn:ρ0[n]?=some a) (R:Rep Θ ρ0 S H1) (sl:RSs Θ ρ0 H1 δ σ) (hD:H1 D=none) (q:Aw Θ (RV Θ) ρ0 H1 ((Gs s tf ef n f 0 δ [] >>= Ce) S) Q E) :
  Ai5 (Itl K a) g (tFb Θ E0s tf) (tF Θ E0s ef) D σ H1 Q:=by
 have nD:D∉ρ0:=fun z=>by
  obtain⟨o,ho⟩:=R.tracked z;rw[hD] at ho;cases ho
 refine⟨fun i m acc σ' H'=>∃ρ S δ' ws,ρ0 <+: ρ/\Cy ρ0 ρ H1 H'/\D∉ρ/\Rep Θ ρ S H'/\RSs Θ ρ H' δ' σ'/\RVs Θ ρ H' ws acc/\Aw Θ (RV Θ) ρ0 H1 ((Gs s tf ef n m i δ' ws >>= Ce) S) Q E,
  ⟨f,ρ0,S,δ,[],prefix_refl _,(Cy.refl _ _).off hD (.inl hD),nD,R.off nD (.inl hD),sl.off (.inl hD),.nil,q⟩,?_⟩
 rintro i m acc σ' H' ⟨ρ,S,δ',ws,p,t,mD,R',sl',ra,q'⟩ hacc;have hn1:ρ[n]?=some a:=by
  obtain⟨r,rfl⟩:=p;rw[getElem?_append_left (List.getElem?_eq_some_iff.mp hn).1];exact hn
 cases m with
 |zero=>exact(show False from q').elim
 |succ m=>
  cases ec:S[n]? with
  |none=>rw[Hr (r:=.bad) (by unfold Gs;simp only[ec])] at q';exact(show False from q').elim
  |some c=>
   obtain⟨a',ha',qc⟩:=R'.get ec;rw[hn1] at ha';cases ha';cases c with
   |dct _=>rw[Hr (r:=.bad) (by unfold Gs;simp only[ec])] at q';exact(show False from q').elim
   |ins _ _=>rw[Hr (r:=.bad) (by unfold Gs;simp only[ec])] at q';exact(show False from q').elim
   |lst us=>
    obtain⟨vs,h1,r1⟩:=qc;cases ew:us[i]? with
    |none=>
     rw[Hr (r:=.ok ws S) (by unfold Gs;simp only[ec,ew])] at q'
     refine .inl ⟨⟨vs,.inl (.inl h1),by rw[<-r1.length];exact List.getElem?_eq_none_iff.mp ew⟩,?_⟩
     have q2:Aw Θ (RV Θ) ρ0 H1 (Ce ws S) Q E:=q';simp only[Ce] at q2;split at q2
     .refine q2 (ρ ++ [D]) H' (.ref D) (p.trans (prefix_append _ _)) ⟨t.t,t.f,t.k,fun b hb=>?_⟩ (R'.take mD hacc ra) (.ref ?_)
      .rcases mem_append.mp hb with z|z
       .exact t.n b z
       .obtain rfl:b=D:=by simpa using z
        exact .inr hD
      .rw[<-R'.len];exact Li
     .exact(show False from q2).elim
    |some w=>
     obtain⟨v,ev,rv⟩:=r1.get ew;refine .inr ⟨⟨vs,v,.inl (.inl h1),ev⟩,?_⟩;rintro x H'' ⟨rfl,hx⟩;have e2:=hx vs (.inl (.inl h1));rw[ev] at e2;cases e2;cases es:s w δ' with
     |none=>rw[Hr (r:=.bad) (by unfold Gs;simp only[ec,ew,es])] at q';exact(show False from q').elim
     |some δ2=>
      have q':Aw Θ (RV Θ) ρ0 H1 (((noX (tf δ2) >>= fun b=>if b=true then noX (ef δ2) >>= fun y=>if ws.length < big then Gs s tf ef n m (i+1) δ2 (ws ++ [y]) else bad else Gs s tf ef n m (i+1) δ2 ws) >>= Ce) S) Q E:=by
       have e3:Gs s tf ef n (m+1) i δ' ws S=(noX (tf δ2) >>= fun b=>if b=true then noX (ef δ2) >>= fun y=>if ws.length < big then Gs s tf ef n m (i+1) δ2 (ws ++ [y]) else bad else Gs s tf ef n m (i+1) δ2 ws) S:=by
        conv=>lhs;unfold Gs
        simp only[ec,ew,es]
       rw[Hr e3] at q';rw[Hr rfl];exact q'
      refine gk ρ S H'' w v δ' δ2 σ' _ R' sl' rv es fun σ2 sl2=>⟨ρ,S,δ2,R',sl2.2,?_⟩;rw[Rh] at q';refine(Aw.seqB (Rel:=fun _ _ a b=>a=b) (ρ:=ρ) (H:=H'') q' _).mono ?_;rintro b H3 ⟨ρ3,S3,b',p3,t3,R3,e3,q3⟩;have e3:b'=b:=e3;subst e3;have out:∀{ρa ρb:List Addr} {Ha Hb:Hp},D∉ρa->Ha D=some (.lst acc)->Cy ρa ρb Ha Hb->D∉ρb/\Hb D=some (.lst acc):=fun {ρa ρb Ha Hb} m1 m2 m3=>by
       refine⟨fun z=>?_,m3.k D _ m2 m1⟩;rcases m3.n D z with z|z
       .exact m1 z
       .rw[m2] at z;cases z
      obtain⟨mD3,hD3⟩:=out mD hacc t3;cases b' with
      |false=>
       rw[if_neg Bool.false_ne_true] at q3 ⊢
       exact⟨hD3,m,lt_succ_self m,ρ3,S3,δ2,ws,p.trans p3,t.trans t3,mD3,R3,sl2.mono p3 t3,ra.mono p3 t3,q3⟩
      |true=>
       rw[if_pos rfl] at q3 ⊢
       rw[Rh] at q3;refine⟨ρ3,S3,δ2,R3,(sl2.mono p3 t3).2,(Aw.seqB (Rel:=RV Θ) (ρ:=ρ3) (H:=H3) q3 _).mono ?_⟩;rintro y H4 ⟨ρ4,S4,yw,p4,t4,R4,ry,q4⟩;obtain⟨mD4,hD4⟩:=out mD3 hD3 t4;by_cases hz:ws.length < big
       .rw[if_pos hz] at q4;have fl:Mw H4 D:=.inr ⟨_,hD4,rfl⟩;have ra4:=(ra.mono p3 t3).mono p4 t4;refine⟨hD4,by rw[<-ra.length];exact lt_of_lt_of_le hz (by decide),m,lt_succ_self m,ρ4,S4,δ2,ws ++ [yw],(p.trans p3).trans p4,((t.trans t3).trans t4).off hD fl,mD4,R4.off mD4 fl,((sl2.mono p3 t3).mono p4 t4).off fl,?_,q4⟩
        exact(ra4.append (.cons ry .nil)).keep fl.g
       .rw[if_neg hz] at q4;exact(show False from q4).elim
end
section
structure JLv (Θ:Th) (J:It) (gt:Store->Nat->Option (Option W)) (ρ0:List Addr):Prop where
 stop:∀ρ S H i,ρ0 <+: ρ->Rep Θ ρ S H->gt S i=some none->J.stop i H
 go:∀ρ S H i w,ρ0 <+: ρ->Rep Θ ρ S H->gt S i=some (some w)->J.go i H/\∀x H',J.yld i H x H'->Cy ρ ρ H H'/\(∀S,Rep Θ ρ S H->Rep Θ ρ S H')/\RV Θ ρ H' w x
theorem Apq {gt:Store->Nat->Option (Option W)} {f:Nat} (gk:GOk Θ s g) (jk:JLv Θ J gt ρ0) (R:Rep Θ ρ0 S H1) (sl:RSs Θ ρ0 H1 δ σ) (hD:H1 D=none) (q:Aw Θ (RV Θ) ρ0 H1 ((J5 s tf ef gt f 0 δ [] >>= Ce) S) Q E) :
  Ai5 J g (tFb Θ E0s tf) (tF Θ E0s ef) D σ H1 Q:=by
 have nD:D∉ρ0:=fun z=>by
  obtain⟨o,ho⟩:=R.tracked z;rw[hD] at ho;cases ho
 refine⟨fun i m acc σ' H'=>∃ρ S δ' ws,ρ0 <+: ρ/\Cy ρ0 ρ H1 H'/\D∉ρ/\Rep Θ ρ S H'/\RSs Θ ρ H' δ' σ'/\RVs Θ ρ H' ws acc/\Aw Θ (RV Θ) ρ0 H1 ((J5 s tf ef gt m i δ' ws >>= Ce) S) Q E,
  ⟨f,ρ0,S,δ,[],prefix_refl _,(Cy.refl _ _).off hD (.inl hD),nD,R.off nD (.inl hD),sl.off (.inl hD),.nil,q⟩,?_⟩
 rintro i m acc σ' H' ⟨ρ,S,δ',ws,p,t,mD,R',sl',ra,q'⟩ hacc;cases m with
 |zero=>exact(show False from q').elim
 |succ m=>
  cases eg:gt S i with
  |none=>rw[Hr (r:=.bad) (by unfold J5;simp only[eg])] at q';exact(show False from q').elim
  |some o=>
   cases o with
   |none=>
    rw[Hr (r:=.ok ws S) (by unfold J5;simp only[eg])] at q'
    refine .inl ⟨jk.stop ρ S H' i p R' eg,?_⟩;have q2:Aw Θ (RV Θ) ρ0 H1 (Ce ws S) Q E:=q';simp only[Ce] at q2;split at q2
    .refine q2 (ρ ++ [D]) H' (.ref D) (p.trans (prefix_append _ _)) ⟨t.t,t.f,t.k,fun b hb=>?_⟩ (R'.take mD hacc ra) (.ref ?_)
     .rcases mem_append.mp hb with z|z
      .exact t.n b z
      .obtain rfl:b=D:=by simpa using z
       exact .inr hD
     .rw[<-R'.len];exact Li
    .exact(show False from q2).elim
   |some w=>
    obtain⟨go,yl⟩:=jk.go ρ S H' i w p R' eg;refine .inr ⟨go,fun x H'' hy=>?_⟩;obtain⟨ty,Ry,rv⟩:=yl x H'' hy;have R':=Ry _ R';have sl':=sl'.mono (prefix_refl _) ty;have t:=t.trans ty;have ra:=ra.mono (prefix_refl _) ty;have hacc:=ty.k D _ hacc mD;cases es:s w δ' with
    |none=>rw[Hr (r:=.bad) (by unfold J5;simp only[eg,es])] at q';exact(show False from q').elim
    |some δ2=>
     have q':Aw Θ (RV Θ) ρ0 H1 (((noX (tf δ2) >>= fun b=>if b=true then noX (ef δ2) >>= fun y=>if ws.length < big then J5 s tf ef gt m (i+1) δ2 (ws ++ [y]) else bad else J5 s tf ef gt m (i+1) δ2 ws) >>= Ce) S) Q E:=by
      have e3:J5 s tf ef gt (m+1) i δ' ws S=(noX (tf δ2) >>= fun b=>if b=true then noX (ef δ2) >>= fun y=>if ws.length < big then J5 s tf ef gt m (i+1) δ2 (ws ++ [y]) else bad else J5 s tf ef gt m (i+1) δ2 ws) S:=by
       conv=>lhs;unfold J5
       simp only[eg,es]
      rw[Hr e3] at q';rw[Hr rfl];exact q'
     refine gk ρ S H'' w x δ' δ2 σ' _ R' sl' rv es fun σ2 sl2=>⟨ρ,S,δ2,R',sl2.2,?_⟩;rw[Rh] at q';refine(Aw.seqB (Rel:=fun _ _ a b=>a=b) (ρ:=ρ) (H:=H'') q' _).mono ?_;rintro b H3 ⟨ρ3,S3,b',p3,t3,R3,e3,q3⟩;have e3:b'=b:=e3;subst e3;have out:∀{ρa ρb:List Addr} {Ha Hb:Hp},D∉ρa->Ha D=some (.lst acc)->Cy ρa ρb Ha Hb->D∉ρb/\Hb D=some (.lst acc):=fun {ρa ρb Ha Hb} m1 m2 m3=>⟨m3.out m2 m1,m3.k D _ m2 m1⟩;obtain⟨mD3,hD3⟩:=out mD hacc t3;cases b' with
     |false=>
      rw[if_neg Bool.false_ne_true] at q3 ⊢
      exact⟨hD3,m,lt_succ_self m,ρ3,S3,δ2,ws,p.trans p3,t.trans t3,mD3,R3,sl2.mono p3 t3,ra.mono p3 t3,q3⟩
     |true=>
      rw[if_pos rfl] at q3 ⊢
      rw[Rh] at q3;refine⟨ρ3,S3,δ2,R3,(sl2.mono p3 t3).2,(Aw.seqB (Rel:=RV Θ) (ρ:=ρ3) (H:=H3) q3 _).mono ?_⟩;rintro y H4 ⟨ρ4,S4,yw,p4,t4,R4,ry,q4⟩;obtain⟨mD4,hD4⟩:=out mD3 hD3 t4;by_cases hz:ws.length < big
      .rw[if_pos hz] at q4;have fl:Mw H4 D:=.inr ⟨_,hD4,rfl⟩;have ra4:=(ra.mono p3 t3).mono p4 t4;refine⟨hD4,by rw[<-ra.length];exact lt_of_lt_of_le hz (by decide),m,lt_succ_self m,ρ4,S4,δ2,ws ++ [yw],(p.trans p3).trans p4,((t.trans t3).trans t4).off hD fl,mD4,R4.off mD4 fl,((sl2.mono p3 t3).mono p4 t4).off fl,?_,q4⟩
       exact(ra4.append (.cons ry .nil)).keep fl.g
      .rw[if_neg hz] at q4;exact(show False from q4).elim
theorem Bau {n m:Nat} (hn:ρ0[n]?=some a) (hm:ρ0[m]?=some b):JLv Θ (Itz Θ.K false a b) (zlG n m) ρ0:=by
 have up:∀{ρ:List Addr} {k:Nat} {c:Addr},ρ0 <+: ρ->ρ0[k]?=some c->ρ[k]?=some c:=fun {ρ k c} p h=>by
  obtain⟨r,rfl⟩:=p;rw[getElem?_append_left (List.getElem?_eq_some_iff.mp h).1];exact h
 have open_:∀{ρ:List Addr} {S:Store} {H:Hp} {i:Nat} {o:Option W},ρ0 <+: ρ->Rep Θ ρ S H->zlG n m S i=some o->∃ws us vs zs,S[n]?=some (.lst ws)/\S[m]?=some (.lst us)/\H a=some (.lst vs)/\H b=some (.lst zs)/\RVs Θ ρ H ws vs/\RVs Θ ρ H us zs/\
   (match ws[i]?,us[i]? with|some w,some u=>some (some (W.tup [w,u]))|_,_=>some none)=some o:=fun {ρ S H i o} p R e=>by
  unfold zlG at e;cases e1:S[n]? with
  |none=>rw[e1] at e;cases e
  |some c1=>
   cases e2:S[m]? with
   |none=>rw[e1,e2] at e;cases c1 <;> cases e
   |some c2=>
    rw[e1,e2] at e;cases c1 <;> cases c2 <;> first|cases e;done|skip
    rename_i ws us;obtain⟨a',ha',vs,h1,r1⟩:=R.get e1;obtain⟨b',hb',zs,h2,r2⟩:=R.get e2;rw[up p hn] at ha';cases ha';rw[up p hm] at hb';cases hb';exact⟨ws,us,vs,zs,rfl,rfl,h1,h2,r1,r2,e⟩
 refine⟨fun ρ S H i p R e=>?_,fun ρ S H i w p R e=>?_⟩
 .obtain⟨ws,us,vs,zs,_,_,h1,h2,r1,r2,e⟩:=open_ p R e;refine⟨vs,zs,.inl (.inl h1),.inl (.inl h2),?_⟩;rw[<-r1.length,<-r2.length];cases q1:ws[i]? with
  |none=>exact .inl (List.getElem?_eq_none_iff.mp q1)
  |some x=>
   cases q2:us[i]? with
   |none=>exact .inr (List.getElem?_eq_none_iff.mp q2)
   |some y=>rw[q1,q2] at e;cases e
 .obtain⟨ws,us,vs,zs,_,_,h1,h2,r1,r2,e⟩:=open_ p R e;cases q1:ws[i]? with
  |none=>rw[q1] at e;cases e
  |some x=>
   cases q2:us[i]? with
   |none=>rw[q1,q2] at e;cases e
   |some y=>
    rw[q1,q2] at e;cases e;obtain⟨vx,g1,rx⟩:=r1.get q1;obtain⟨vy,g2,ry⟩:=r2.get q2;refine⟨⟨vs,zs,vx,vy,.inl (.inl h1),.inl (.inl h2),g1,g2⟩,?_⟩;rintro v H' ⟨pp,x',y',f1,f2,hp,rfl,rfl⟩;have z1:=f1 vs (.inl (.inl h1));have z2:=f2 zs (.inl (.inl h2));rw[g1] at z1;cases z1;rw[g2] at z2;cases z2;exact⟨Cm hp,fun S r=>r.beside hp,.tup Bm (.cons (rx.mono (prefix_refl _) (Cm hp)) (.cons (ry.mono (prefix_refl _) (Cm hp)) .nil))⟩
end
section
variable {cap:List Nat}
theorem Aes (gk:GOk Θ s g):∀σ H Q,tF Θ E (Df own.length cap src s tf ef) σ H Q->Aaz (tFi Θ E src) g (tFb Θ E0s tf) (tF Θ E0s ef) own cap σ H Q:=fun σ H Q ⟨ρ,S,δ,R,sl,q⟩=>by
  refine⟨ρ,S,δ,R,sl,(Aw.seq (Rel:=Xa Θ) q).mono ?_⟩;rintro J H1 ⟨ρ1,S1,z,p1,t1,R1,rj,q1⟩ D hD;have sl1:=Avd own cap (sl.mono p1 t1);cases z with
  |fix ws=>exact Apo gk rj R1 sl1 hD q1
  |liv n=>
   obtain⟨a,hn,rfl⟩:=rj;simp only at q1;split at q1
   .exact App gk hn R1 sl1 hD q1
   .exact(show False from q1).elim
  |zl n m=>
   obtain⟨a,b,hn,hm,rfl⟩:=rj;simp only at q1;split at q1
   .exact Apq gk (Bau hn hm) R1 sl1 hD q1
   .exact(show False from q1).elim
theorem Bav (hc:X.calm=true) (hE:X.env.scope=sc) (hi:WI X tg iter (tFi Θ E src)) (hg:∀C s H ex,WG (X.comp scope own cap C s H ex) tg g) (gk:GOk Θ s g) (ht:∀C s H ex,WTs (X.comp scope own cap C s H ex) ifs (tFb Θ E0s tf)) (he:∀C s H ex,WE (X.comp scope own cap C s H ex) elt (tF Θ E0s ef))
  (hcap:cap.all (fun j=>match X.N[j]? with|some x=>decide (scope.names.lookup x=some .free)|none=>false)=true) (az:scope.kind=.function) (ao:scope.names.all (fun y=>decide (y.2≠.cell))=true)
  (au:scope.names.all (fun y=>!decide (y.2=.local)||decide (scope.names.lookup y.1=some .local))=true)
  (bc:scope.names.all (fun y=>!decide (y.2=.free)||(decide (sc.names.lookup y.1=some .cell)||decide (sc.names.lookup y.1=some .free)))=true) (hs:∀x,foldedSetIterable iter X.env x=pure x) :
  WE X (.ListComp elt [⟨tg,iter,ifs,0⟩] scope pos) (tF Θ E (Df own.length cap src s tf ef)):=
 WE.weak (Bdv hc hE hi hg ht he hcap az ao au bc hs) (Aes gk)
end
def Acw (kvs:List (Key×W)):M W:=fun S=>.ok (.ref S.length) (S ++ [.dct kvs])
def J1 (kvs more:List (Key×W)):List (Key×W):=more.foldl (fun acc kv=>R0 acc kv.1 kv.2) kvs
def Lz:List ((De->M W)×(De->M W))->De->M (List (Key×W))
 |[]=>fun _=>pure []
 |(f,g)::r=>fun δ=>do
  let k<-f δ;let v<-g δ;let kvs<-Lz r δ
  match Aaf k with
  |some k=>pure ((k,v)::kvs)
  |none=>bad
def Oh (l:List ((De->M W)×(De->M W))):De->M W:=fun δ=>do let kvs<-Lz l δ;Acw (J1 [] kvs)
section
theorem Cy.more (t:Cy ρ ρ2 H H') (h:H p=none):Cy ρ (ρ2 ++ [p]) H H' where
 t:=t.t
 f:=t.f
 k:=t.k
 n:=fun b m=>by
  rcases mem_append.mp m with z|z
  .exact t.n b z
  .obtain rfl:=mem_singleton.mp z;exact .inr h
theorem Rep.takeC (R:Rep Θ ρ S H) (hD:D∉ρ) (h:H D=some o) (mu:Aer o=true) (q:Mu Θ (ρ ++ [D]) H D c):Rep Θ (ρ ++ [D]) (S ++ [c]) H where
 len:=by rw[length_append,length_append,R.len];rfl
 nd:=by
  rw[nodup_append];refine⟨R.nd,by simp,fun a ha b hb=>?_⟩
  obtain rfl:b=D:=by simpa using hb
  rintro rfl;exact hD ha
 at_:=fun n a d e1 e2=>by
  by_cases hn:n < ρ.length
  .rw[getElem?_append_left hn] at e1;rw[getElem?_append_left (by rw[<-R.len];exact hn)] at e2
   refine(R.at_ n a d e1 e2).grow (prefix_append _ _) (fun b hb=>?_);rcases mem_append.mp hb with z|z
   .exact .inl z
   .obtain rfl:=mem_singleton.mp z;exact .inr ⟨_,h,mu⟩
  .have hl:=(List.getElem?_eq_some_iff.mp e1).1;rw[length_append,length_singleton] at hl;obtain rfl:n=ρ.length:=by omega
   rw[getElem?_append_right (le_refl _),sub_self] at e1;rw[R.len,getElem?_append_right (le_refl _),sub_self] at e2;obtain rfl:D=a:=by simpa using e1
   obtain rfl:c=d:=by simpa using e2
   exact q
theorem RKV.merge (r:RKV Θ ρ H more rs):∀{kvs:List (Key×W)} {vs:List (Key×V)},RKV Θ ρ H kvs vs->RKV Θ ρ H (J1 kvs more) (Kh vs rs):=by
 unfold RKV at r;induction r with
 |nil=>intro kvs vs q;exact q
 |@cons p q ps qs h t ih=>
  intro kvs vs r0;have e:RKV Θ ρ H (R0 kvs p.1 p.2) (putK vs q.1 q.2):=by
   rw[<-h.1];exact r0.put p.1 h.2
  exact ih e
def Ave (Θ:Th) (ρ:List Addr) (H:Hp) (kws:List (Key×W)) (ps:List (V×V)):Prop:=∃kvs:List (Key×V),ps=kvs.map (fun kv=>(kV kv.1,kv.2))/\RKV Θ ρ H kws kvs
theorem Yq:∀(l:List ((De->M W)×(De->M W))) {ρ:List Addr} {S:Store} {H:Hp} {Q:List (V×V)->Hp->Prop},Rep Θ ρ S H->RSl Θ ρ H δ σ->Aw Θ (Ave Θ) ρ H (Lz l δ S) Q (E σ)->Ace (l.map fun p=>(tF Θ E p.1,tF Θ E p.2)) σ H Q
 |[],ρ,S,H,Q,R,sl,q=>Aw.now (Rel:=Ave Θ) q R ⟨[],rfl,.nil⟩
 |(f,g)::r,ρ,S,H,Q,R,sl,q=>by
  refine⟨ρ,S,δ,R,sl,(Aw.seq (Rel:=RV Θ) q).mono ?_⟩;rintro vk H1 ⟨ρ1,S1,k,p1,t1,R1,rk,q1⟩;refine⟨ρ1,S1,δ,R1,sl.mono p1 t1,(Aw.seq (Rel:=RV Θ) q1).mono ?_⟩;rintro vv H2 ⟨ρ2,S2,v,p2,t2,R2,rv,q2⟩;refine Yq r R2 ((sl.mono p1 t1).mono p2 t2) ((Aw.seq (Rel:=Ave Θ) q2).mono ?_);rintro ps H3 ⟨ρ3,S3,kws,p3,t3,R3,⟨kvs,rfl,rkv⟩,q3⟩;cases e:Aaf k with
  |none=>rw[e] at q3;exact(show False from q3).elim
  |some kk=>
   rw[e] at q3;have ek:=Acq rk e;subst ek;exact Aw.now (Rel:=Ave Θ) q3 R3 ⟨(kk,vv)::kvs,rfl,.cons ⟨rfl,rv.mono p3 t3⟩ rkv⟩
theorem pairs_len:∀(l:List ((De->M W)×(De->M W))) (δ:De) (S S1:Store) (kws:List (Key×W)),Lz l δ S=.ok kws S1->kws.length=l.length
 |[],δ,S,S1,kws,e=>by cases e;rfl
 |(f,g)::r,δ,S,S1,kws,e=>by
  have e:M.bind (f δ) (fun k=>M.bind (g δ) fun v=>M.bind (Lz r δ) fun kvs=>match Aaf k with|some k=>pure ((k,v)::kvs)|none=>bad) S=_:=e
  unfold M.bind at e;cases e1:f δ S with
  |ok k S2=>
   rw[e1] at e;simp only at e;cases e2:g δ S2 with
   |ok v S3=>
    rw[e2] at e;simp only at e;cases e3:Lz r δ S3 with
    |ok kvs S4=>
     rw[e3] at e;simp only at e;have ih:=pairs_len r δ _ _ _ e3;cases ek:Aaf k with
     |none=>rw[ek] at e;cases e
     |some kk=>rw[ek] at e;cases e;rw[length_cons,length_cons,ih]
    |exc c S4=>rw[e3] at e;cases e
    |bad=>rw[e3] at e;cases e
   |exc c S4=>rw[e2] at e;cases e
   |bad=>rw[e2] at e;cases e
  |exc c S4=>rw[e1] at e;cases e
  |bad=>rw[e1] at e;cases e
theorem Baw:WE X (.Dict [] [] pos) (tF Θ E (Oh [])):=WE.weak ⟨An8⟩ fun σ H Q ⟨ρ,S,δ,R,sl,q⟩=>fun p hp=>by
 refine q (ρ ++ [p]) _ _ (prefix_append _ _) (Cm hp) (R.alloc (c:=.dct []) hp ⟨_,Bm,.nil⟩) (.ref ?_);rw[<-R.len];exact Li
theorem Bax (h:WPs X pos keys values (l.map fun p=>(tF Θ E p.1,tF Θ E p.2))) (hall:keys.all (·.isSome)=true) (hl:keys.length=values.length) (h0:keys≠[]) (h15:keys.length<=15) (hk:l.length=keys.length) :
  WE X (.Dict keys values pos) (tF Θ E (Oh l)):=WE.weak ⟨Ate h.un hall hl h0 h15⟩ fun σ H Q ⟨ρ,S,δ,R,sl,q⟩=>fun p hp=>by
 have pn:p∉ρ:=fun z=>by
  obtain⟨o,ho⟩:=R.tracked z;rw[hp] at ho;cases ho
 have t0:Cy ρ ρ H (upd H p (.dK [])):=Cm hp;have q0:Aw Θ (RV Θ) ρ (upd H p (.dK [])) (Oh l δ S) Q (E σ):=Aw.shift q (prefix_refl _) t0;cases e:Lz l δ S with
 |bad=>
  have q:Aw Θ (RV Θ) ρ H (M.bind (Lz l δ) (fun kvs=>Acw (J1 [] kvs)) S) Q (E σ):=q;unfold M.bind at q;rw[e] at q;exact q.elim
 |exc c S1=>
  refine Yq l (R.beside hp) (sl.mono (prefix_refl _) t0) ?_;have q0:Aw Θ (RV Θ) ρ (upd H p (.dK [])) (M.bind (Lz l δ) (fun kvs=>Acw (J1 [] kvs)) S) Q (E σ):=q0;unfold M.bind at q0;rw[e] at q0 ⊢
  exact q0
 |ok kws S1=>
  refine Yq l (R.beside hp) (sl.mono (prefix_refl _) t0) ?_;rw[e];rintro ρ2 H2 ps p2 t2 R2 ⟨kvs,rfl,rkv⟩;have hp2:H2 p=some (.dK []):=t2.k p _ Bm pn;have pn2:p∉ρ2:=t2.out Bm pn;have fl:Mw H2 p:=.inr ⟨_,hp2,rfl⟩;have q1:Aw Θ (RV Θ) ρ H (M.bind (Lz l δ) (fun kvs=>Acw (J1 [] kvs)) S) Q (E σ):=q;unfold M.bind at q1;rw[e] at q1;have ln:=pairs_len l δ S S1 kws e;refine⟨hp2,kvs,rfl,?_,?_⟩
  .rw[<-(paired_len rkv:kws.length=kvs.length),ln,hk];exact h15
  .have r3:RKV Θ ρ2 (upd H2 p (.dK (Kh [] kvs))) (J1 [] kws) (Kh [] kvs):=Paired.imp2 (fun _ _ z=>⟨z.1,z.2.keep fl.g⟩) (RKV.merge rkv (kvs:=[]) (vs:=[]) .nil);have R3:=R2.off (o:=.dK (Kh [] kvs)) pn2 fl;have r4:RKV Θ (ρ2 ++ [p]) (upd H2 p (.dK (Kh [] kvs))) (J1 [] kws) (Kh [] kvs):=Paired.imp2 (fun _ _ z=>⟨z.1,z.2.grow (prefix_append _ _) (fun b hb=>by
    rcases mem_append.mp hb with z|z
    .exact .inl z
    .obtain rfl:=mem_singleton.mp z;exact .inr ⟨_,Bm,rfl⟩)⟩) r3
   have R4:=R3.takeC (c:=.dct (J1 [] kws)) pn2 Bm rfl ⟨_,Bm,r4⟩;refine q1 (ρ2 ++ [p]) _ _ (p2.trans (prefix_append _ _)) (((t0.trans t2).off hp fl).more hp) R4 (.ref ?_);rw[<-R2.len];exact Li
end
def tyW (S:Store):W->Option String
 |.non=>some "NoneType"
 |.bl _=>some "bool"
 |.int _=>some "int"
 |.str _=>some "str"
 |.tup _=>some "tuple"
 |.ref n=>match S[n]? with
  |some (.lst _)=>some "list"
  |some (.dct _)=>some "dict"
  |_=>none
 |_=>none
def Xi:List String:=["int","bool","str","tuple","list","dict"]
def Aps:List String:=["NoneType","int","bool","str","tuple","list","dict"]
def Bej (T n:String):Bool:=T==n||(T=="bool"&&n=="int")
def Bay (Θ:Th):W->Option Value
 |.ty n=>some (.type n)
 |.cls c=>some (.ref (Θ.cl c))
 |_=>none
structure Aet (Θ:Th) (isa:Nat->W->Option Bool):Prop where
 ok:∀c k b,isa c k=some b->W8 Θ.K (Θ.cl c)/\∃cv,Bay Θ k=some cv/\kitOne Θ.K (.ref (Θ.cl c)) cv=some b
def Dq (isa:Nat->W->Option Bool):List W->M W
 |[.exn c _,k]=>match isa c k with
  |some b=>pure (.bl b)
  |none=>bad
 |[x,.ty n]=>fun S=>match tyW S x with
  |some T=>if Xi.contains n then .ok (.bl (Bej T n)) S else .bad
  |none=>.bad
 |_=>bad
theorem Baz (K:PySem.W.Frag) (h1:T∈Aps) (h2:n∈Xi):kitOne K (.type T) (.type n)=some (Bej T n):=by
 simp only[Aps,Xi,mem_cons,not_mem_nil,or_false] at h1 h2;rcases h1 with rfl|rfl|rfl|rfl|rfl|rfl|rfl <;> rcases h2 with rfl|rfl|rfl|rfl|rfl|rfl <;> kernel_rfl
section
theorem Ba0 (R:Rep Θ ρ S H) (rv:RV Θ ρ H x vx) (h:tyW S x=some T):TyX Θ.K H vx (.type T)/\T∈Aps:=by
 cases rv <;> simp only[tyW,Option.some.injEq,reduceCtorEq] at h <;> try subst h
 .exact⟨.of .non,by decide⟩
 .exact⟨.of (.bl _),by decide⟩
 .exact⟨.of (.int _),by decide⟩
 .exact⟨.of (.str _),by decide⟩
 .rename_i h1 r1;exact⟨.of (.tup h1),by decide⟩
 .rename_i n a hn;split at h
  .rename_i ws e1;cases h;obtain⟨a',ha',zs,h2,r2⟩:=R.get e1;rw[hn] at ha';cases ha';exact⟨.of (.lst h2),by decide⟩
  .rename_i ws e1;cases h;obtain⟨a',ha',zs,h2,r2⟩:=R.get e1;rw[hn] at ha';cases ha';exact⟨.of (.dK h2),by decide⟩
  .cases h
theorem Avf (rk:RV Θ ρ H k vk) (h:Bay Θ k=some cv):Alf vk=some cv:=by
 cases rk <;> simp only[Bay,Option.some.injEq,reduceCtorEq] at h <;> subst h <;> rfl
theorem Bg4 {isa:Nat->W->Option Bool} (O:Aet Θ isa) (R:Rep Θ ρ S H) (r:RVs Θ ρ H ws vs) (h:Aw Θ (RV Θ) ρ H (Dq isa ws S) Q E) :
  ∃x c cv t b,vs=[x,c]/\TyX Θ.K H x t/\Alf c=some cv/\kitOne Θ.K t cv=some b/\Q (.bl b) H:=by
 unfold Dq at h;split at h
 .rename_i c w k;cases r with|cons rx r=>
  cases r with|cons rk r=>
  cases r;cases hb:isa c k with
  |none=>simp only[hb] at h;exact(show False from h).elim
  |some b=>
   simp only[hb] at h;obtain⟨x2,cv,hc,hk⟩:=O.ok c k b hb;refine⟨_,_,cv,_,b,rfl,?_,Avf rk hc,hk,h.now R (.bl _)⟩;cases rx with
   |exn z m ha=>exact .exc ha x2
   |exf z m m' ha=>exact .exc ha x2
 .rename_i x n nx;cases r with|cons rx r=>
  cases r with|cons rk r=>
  cases r;cases hT:tyW S x with
  |none=>simp only[hT] at h;exact(show False from h).elim
  |some T=>
   simp only[hT] at h;by_cases hn:Xi.contains n=true
   .rw[if_pos hn] at h;obtain⟨h1,h2⟩:=Ba0 R rx hT;cases rk;exact⟨_,_,_,_,_,rfl,h1,rfl,Baz Θ.K h2 (by simpa using hn),Jt h R (.bl _)⟩
   .rw[if_neg hn] at h;exact(show False from h).elim
 .exact(show False from h).elim
end
section
theorem Bek {isa:Nat->W->Option Bool} (hK:X.K=Θ.K) (O:Aet Θ isa) (hm:X.mg "isinstance"=none) (ha:WA X (e::es) (tFs Θ E gs)) (hg:X.env.kindOf "isinstance"=some .globalImplicit)
  (he:starEach (e::es) X.env=(false,eval e X.env)::starEach es X.env) (hpl:(backTo pos (starEach es X.env)).any (·.1)=false):WE X (.Call (.Name "isinstance" p) (e::es) [] pos) (tF Θ E (Ae (Dq isa) gs)):=by
 refine WE.weak (kbi (Ali Θ.K hK) hm (by kernel_rfl:bootBuiltins "isinstance"=some (.builtin "isinstance")) ha hg (by decide) (by decide) he hpl) fun σ H Q ⟨ρ,S,δ,R,sl,q⟩=>?_
 refine⟨ρ,S,δ,R,sl,(Aw.seq (Rel:=RVs Θ) q).mono ?_⟩;rintro vs H1 ⟨ρ1,S1,ws,p1,t1,R1,rvs,q1⟩;exact Bg4 O R1 rvs q1
theorem Apt (hw:∀ρ H,RV Θ ρ H w v) (h:WE X e (tC v)):WE X e (tF Θ E (kF w)):=WE.weak h fun σ H Q q=>by
 obtain⟨ρ,S,δ,R,sl,q⟩:=q;exact q.now R (hw ρ H)
end
def J9 (c:Nat) (dv:List W) (gs:De->M (List W)):MS:=fun δ=>Fg (gs δ) (fun ws δ S=>match ws with|[]=>.bad|w::us=>if us.length+dv.length=1 then .ex (c,w) δ S else .bad) δ
structure Bel (X:Cx) (C:Addr) (f:Str) (n:Nat):Prop where
 ex:∃(fI:Addr) (fd:FuncData) (ps:List Str) (k:Nat) (dvs:List V) (ds:List Value),Acl X.K C fI=true/\keepIn X.K (.ref C)=true/\typeIn X.K (.ref fI)=some (.type "function")/\
  Gw X.prog X.w X.K X.mg X.base (CXo X.prog X.w) k fI fd ps (Alo C f) true/\Hc (k+1) X.A true/\Binds X.K fd ps ds/\Vals dvs ds/\dvs.length=n
section
theorem Alz {c:Nat} (hxf:Θ.xf c=some f) (hex:X.ex=[]) (hx:Bel X (Θ.cl c) f dv.length) (hm:X.mg x=some (.ref (Θ.cl c))) (hc:X.calm=true) (hR:Xh X E) (ha:WA X (e::es) (tFs Θ (fun _=>E) gs)) (hg:X.env.kindOf x=some .globalImplicit)
  (hd:(x==("__debug__":Str))=false) (he:starEach (e::es) X.env=(false,eval e X.env)::starEach es X.env) (hpl:(backTo cpos (starEach es X.env)).any (·.1)=false) :
  WS X (.Raise (some (.Call (.Name x p) (e::es) [] cpos)) none pos) (tS Θ (fun _=>E) (J9 c dv gs)):=by
 obtain⟨fI,fd,ps,k,dvs,ds,h1,h2,h3,F,hr,hb,hv,hl⟩:=hx.ex;refine WS.weak ⟨Alp h1 h2 h3 hex hg hm hc hR F hr hb hv ha.un hd he hpl⟩ fun D σ H ⟨ρ,S,δ,R,sl,q⟩=>?_;refine⟨ρ,S,δ,R,sl.2,(Ds.lift (Rel:=RVs Θ) sl q).mono ?_⟩;rintro vs H1 ⟨ρ1,S1,ws,p1,t1,R1,sl1,rvs,q1⟩;cases rvs with
 |nil=>exact q1.elim
 |@cons w v us zs rv rvs=>
  dsimp only at q1;by_cases hz:us.length+dv.length=1
  .rw[if_pos hz] at q1;have l:=rvs.length;obtain⟨u,hu⟩:∃u,zs ++ dvs=[u]:=by
    have z:(zs ++ dvs).length=1:=by rw[length_append];omega
    match zs ++ dvs,z with
    |[u],_=>exact⟨u,rfl⟩
   refine⟨le_trans (by rw[length_cons];omega:(v::zs).length<=2) (by decide),v,u,by rw[cons_append,hu],fun d hd=>?_⟩
   have nd:d∉ρ1:=fun z=>by
    obtain⟨o,ho⟩:=R1.tracked z;rw[hd] at ho;cases ho
   have t2:Cy ρ1 ρ1 H1 (upd H1 d (.xd [(f,v)])):=Cm hd;have z:=q1 ρ1 _ σ (prefix_refl _) t2 (R1.beside hd) (sl1.mono (prefix_refl _) t2);unfold XP at z;dsimp only at z;rw[hxf] at z;exact z d v nd Bm (rv.mono (prefix_refl _) t2)
  .rw[if_neg hz] at q1;exact q1.elim
end
def Al0 (exm:Nat->Bool) (i:Nat) (b su:MS):MS:=fun δ S=>match b δ S with
 |.ex c δ1 S1=>if exm c.1 then (match su (δ1.set i (some (.exn c.1 c.2))) S1 with
   |.nx δ2 S2=>.nx (δ2.set i none) S2
   |.bk δ2 S2=>.bk (δ2.set i none) S2
   |.ct δ2 S2=>.ct (δ2.set i none) S2
   |.rt w S2=>.rt w S2
   |_=>.bad) else .bad
 |r=>r
section
theorem RSs.unset {i:Nat} (h:RSs Θ ρ H δ σ):RSs Θ ρ H (δ.set i none) (σ.set i none):=by
 refine⟨by rw[length_set,length_set];exact h.1,fun j u e=>?_⟩
 by_cases hj:j=i
 .subst hj;have hl:j < δ.length:=by
   have z:=(List.getElem?_eq_some_iff.mp e).1
   rwa [length_set] at z
  rw[getElem?_set_self hl] at e;cases e
 .rw[getElem?_set_ne (Ne.symm hj)] at e;obtain⟨z,h1,h2⟩:=h.2 j u e;exact⟨z,by rw[getElem?_set_ne (Ne.symm hj)];exact h1,h2⟩
variable {i k:Nat} {exm:Nat->Bool}
theorem Ba1 (hK:X.K=Θ.K) (bh:X.stack=X.env::X.outer) (hfr:X.env.frame=some X.env.locals) (nd:X.N.Nodup) (hm:X.mg x=some (.ref (Θ.cl k))) (hx:∀c,exm c=true->exmOne Θ.K (.ref (Θ.cl c)) (.ref (Θ.cl k))=some true)
  (hb:∀(pn:List (Addr×Obj)) (xe:Value->Shared->Prop) (E':L2.St->XK),Du (CXo X.prog X.w) (X.tryB pn xe) E'->WSs (X.tryB pn xe) body (tS Θ E' b)) (hs:∀e,WSs (X.suite e) (b0::suite) (tS Θ E0s su))
  (hi:X.N[i]?=some n) (hn:X.env.scope.names.lookup n=some .local) (hg:X.env.kindOf x=some .globalImplicit) (hd:(x==("__debug__":Str))=false) :
  WS X (.Try body [.ExceptHandler (some (.Name x np)) (some n) (b0::suite) hpos] [] [] pos) (tS Θ E (Al0 exm i b su)):=by
 refine WS.weak (Bgg (tb:=fun E'=>tS Θ E' b) bh hfr nd hm hb hs hi hn hg hd) fun D σ H ⟨ρ,S,δ,R,sl,q⟩=>?_;refine⟨ρ,S,δ,R,sl,?_⟩;unfold Al0 at q;cases eb:b δ S with
 |nx δ1 S1=>rw[eb] at q;exact q
 |rt w S1=>rw[eb] at q;exact q
 |bk δ1 S1=>rw[eb] at q;exact q
 |ct δ1 S1=>rw[eb] at q;exact q
 |bad=>rw[eb] at q;exact q
 |ex c δ1 S1=>
  rw[eb] at q;dsimp only at q;by_cases hc:exm c.1=true
  .rw[if_pos hc] at q;have ex1:=hx c.1 hc;intro ρ1 H1 σ1 p1 t1 R1 sl1;have go:∀(o:Option (Nat×Option Addr)),(∀ea,H1 ea=none->ea∉ρ1->RV Θ ρ1 (upd H1 ea (Su ea (.ref (Θ.cl c.1)) o)) (.exn c.1 c.2) (.ref ea))->
     (fun σ' cls o H'=>exmOne X.K cls (.ref (Θ.cl k))=some true/\∀ea,H' ea=none->tS Θ E0s su { nx:=fun σ2 H2=>D.nx (σ2.set i none) H2,rt:=D.rt,bk:=fun σ2 H2=>D.bk (σ2.set i none) H2,ct:=fun σ2 H2=>D.ct (σ2.set i none) H2 }
      (σ'.set i (some (.ref ea))) (upd H' ea (Su ea cls o))) σ1 (.ref (Θ.cl c.1)) o H1:=fun o hrv=>by
    refine⟨by rw[hK];exact ex1,fun ea hea=>?_⟩
    have nea:ea∉ρ1:=fun z=>by
     obtain⟨o,ho⟩:=R1.tracked z;rw[hea] at ho;cases ho
    have t2:Cy ρ1 ρ1 H1 (upd H1 ea (Su ea (.ref (Θ.cl c.1)) o)):=Cm hea;refine⟨ρ1,S1,δ1.set i (some (.exn c.1 c.2)),R1.beside hea,(sl1.mono (prefix_refl _) t2).set (hrv ea hea nea),?_⟩;have sh:∀r,Ds Θ ρ H r D E->Ds Θ ρ1 (upd H1 ea (Su ea (.ref (Θ.cl c.1)) o)) r D E:=fun r z=>Ds.shift z p1 (t1.trans t2);cases es:su (δ1.set i (some (.exn c.1 c.2))) S1 with
    |nx δ2 S2=>rw[es] at q;exact fun ρ3 H3 σ3 p3 t3 R3 sl3=>sh _ q ρ3 H3 _ p3 t3 R3 sl3.unset
    |bk δ2 S2=>rw[es] at q;exact fun ρ3 H3 σ3 p3 t3 R3 sl3=>sh _ q ρ3 H3 _ p3 t3 R3 sl3.unset
    |ct δ2 S2=>rw[es] at q;exact fun ρ3 H3 σ3 p3 t3 R3 sl3=>sh _ q ρ3 H3 _ p3 t3 R3 sl3.unset
    |rt w S2=>rw[es] at q;exact fun ρ3 H3 v p3 t3 R3 rv=>sh _ q ρ3 H3 _ p3 t3 R3 rv
    |ex c2 δ2 S2=>rw[es] at q;exact q.elim
    |bad=>rw[es] at q;exact q.elim
   unfold XP;cases hxf:Θ.xf c.1 with
   |none=>exact go _ fun ea hea nea=>.exn hxf nea Bm
   |some n=>
    intro d v nd hd rv;refine go _ fun ea hea nea=>?_;have de:d≠ea:=fun z=>by rw[z,hea] at hd;cases hd
    exact .exf hxf nea nd Bm (by rw[Ax de];exact hd) (rv.mono (prefix_refl _) (Cm hea))
  .rw[if_neg hc] at q;exact q.elim
def Al1 (b:MS):MS:=fun δ S=>match b δ S with
 |.ex _ _ _=>.bad
 |r=>r
theorem Avg (hb:∀(pn:List (Addr×Obj)) (xe:Value->Shared->Prop) (E':L2.St->XK),Du (CXo X.prog X.w) (X.tryB pn xe) E'->WSs (X.tryB pn xe) body (tS Θ E' b)) :
  WS X (.Try body (h0::hs) [] [] pos) (tS Θ E (Al1 b)):=by
 refine WS.weak ⟨Ati (tb:=fun E'=>tS Θ E' b) fun pn xe E' hx=>(hb pn xe E' hx).un⟩ fun D σ H ⟨ρ,S,δ,R,sl,q⟩=>?_;refine⟨ρ,S,δ,R,sl,?_⟩;unfold Al1 at q;cases eb:b δ S with
 |nx δ1 S1=>rw[eb] at q;exact q
 |rt w S1=>rw[eb] at q;exact q
 |bk δ1 S1=>rw[eb] at q;exact q
 |ct δ1 S1=>rw[eb] at q;exact q
 |bad=>rw[eb] at q;exact q
 |ex c δ1 S1=>rw[eb] at q;exact q.elim
end
def Ajd (z:Str):List W:=(List.range z.cps.size).map fun(i:Nat)=>W.tup [.int ((i:Int)+1),.str ⟨#[z.cps.getD i 0]⟩]
def Aje (f:De->M W):De->M Src:=fun δ=>do let x<-f δ;match x with
 |.str z=>pure (.fix (Ajd z))
 |_=>bad
theorem Apu (z:Str):JOk Θ (Ite z) (Ajd z) ρ H where
 go:=fun ρ1 H1 i p t hi=>by
  unfold Ajd at hi ⊢
  rw[length_map,length_range] at hi;refine⟨hi,?_⟩;rintro x H' ⟨c,T,hc,hT,rfl,rfl⟩;refine⟨Cm hT,fun S r=>r.beside hT,_,by rw[getElem?_map,List.getElem?_range hi];rfl,.tup Bm (.cons (.int _) (.cons ?_ .nil))⟩
  have e:z.cps.getD i 0=c:=by rw[Array.getD_eq_getD_getElem?,hc];rfl
  rw[e];exact .str _
 stop:=fun ρ1 H1 i t hi=>by
  unfold Ajd at hi;rw[length_map,length_range] at hi;exact hi
section
variable {kt j:Nat}
theorem Ba2 (hm:X.mg "enumerate"=none) (he:WE X e (tF Θ E f)) (hg:X.env.kindOf "enumerate"=some .globalImplicit) (hs:starEach [e] X.env=[(false,eval e X.env)]) :
  WI X (.Tuple elts kt tpos) (.Call (.Name "enumerate" p) [e] [⟨some "start",.Constant (.int 1) j cpos,kpos⟩] pos) (tFi Θ E (Aje f)):=by
 refine WI.weak (At3 hm he hg hs) fun σ H Q ⟨ρ,S,δ,R,sl,q⟩=>?_;refine⟨ρ,S,δ,R,sl,(Aw.seq (Rel:=RV Θ) q).mono ?_⟩;rintro v H1 ⟨ρ1,S1,w,p1,t1,R1,rv,q1⟩;cases rv <;> first|exact(show False from q1).elim|skip
 rename_i z;exact⟨z,rfl,Aw.now (Rel:=Xa Θ) q1 R1 (Apu z)⟩
end
def Al2 (ws us:List W):List W:=List.zipWith (fun x y=>W.tup [x,y]) ws us
def Avh:List W->M Src
 |[.tup ws,.tup us]=>pure (.fix (Al2 ws us))
 |[.ref n,.ref m]=>fun S=>match S[n]?,S[m]? with
  |some (.lst _),some (.lst _)=>.ok (.zl n m) S
  |_,_=>.bad
 |_=>bad
def Al3 (gs:De->M (List W)):De->M Src:=fun δ=>do let ws<-gs δ;Avh ws
section
theorem Avi (h1:H a=some (.tup vs)) (r1:RVs Θ ρ H ws vs) (h2:H b=some (.tup zs)) (r2:RVs Θ ρ H us zs):JOk Θ (Itz Θ.K true a b) (Al2 ws us) ρ H where
 go:=fun ρ1 H1 i p t hi=>by
  unfold Al2 at hi ⊢
  rw[List.length_zipWith] at hi;have i1:i < ws.length:=lt_of_lt_of_le hi (Nat.min_le_left ..);have i2:i < us.length:=lt_of_lt_of_le hi (Nat.min_le_right ..);obtain⟨vx,g1,rx⟩:=r1.get (getElem?_eq_getElem i1);obtain⟨vy,g2,ry⟩:=r2.get (getElem?_eq_getElem i2);have s1:SqT Θ.K H1 a vs:=SqT.of (t.t _ _ h1);have s2:SqT Θ.K H1 b zs:=SqT.of (t.t _ _ h2);refine⟨⟨vs,zs,vx,vy,s1,s2,g1,g2⟩,?_⟩;rintro v H' ⟨pp,x',y',f1,f2,hp,rfl,rfl⟩;have z1:=f1 vs s1;have z2:=f2 zs s2;rw[g1] at z1;cases z1;rw[g2] at z2;cases z2;refine⟨Cm hp,fun S r=>r.beside hp,.tup [ws[i],us[i]],?_,.tup Bm (.cons ((rx.mono p t).mono (prefix_refl _) (Cm hp)) (.cons ((ry.mono p t).mono (prefix_refl _) (Cm hp)) .nil))⟩;rw[List.getElem?_zipWith,getElem?_eq_getElem i1,getElem?_eq_getElem i2]
 stop:=fun ρ1 H1 i t hi=>by
  unfold Al2 at hi;rw[List.length_zipWith] at hi;refine⟨vs,zs,SqT.of (t.t _ _ h1),SqT.of (t.t _ _ h2),?_⟩;rw[<-r1.length,<-r2.length];omega
variable {kt:Nat}
theorem Bem (hK:X.K=Θ.K) (hm:X.mg "zip"=none) (ha:WA X (e::es) (tFs Θ E gs)) (hg:X.env.kindOf "zip"=some .globalImplicit) (hs:starEach (e::es) X.env=(false,eval e X.env)::starEach es X.env) (hpl:(backTo pos (starEach es X.env)).any (·.1)=false) :
  WI X (.Tuple elts kt tpos) (.Call (.Name "zip" p) (e::es) [] pos) (tFi Θ E (Al3 gs)):=by
 refine WI.weak ⟨Az1 hg hm ha.un hs hpl⟩ fun σ H Q ⟨ρ,S,δ,R,sl,q⟩=>?_;refine⟨ρ,S,δ,R,sl,(Aw.seq (Rel:=RVs Θ) q).mono ?_⟩;rintro vs H1 ⟨ρ1,S1,ws,p1,t1,R1,rvs,q1⟩;unfold Avh at q1;rw[hK];split at q1
 .rename_i xs ys;cases rvs with|cons rx rvs=>
  cases rvs with|cons ry rvs=>
  cases rvs;cases rx with|tup h1 r1=>
  cases ry with|tup h2 r2=>
  exact⟨true,_,_,_,_,rfl,SqT.of h1,SqT.of h2,Aw.now (Rel:=Xa Θ) q1 R1 (Avi h1 r1 h2 r2)⟩
 .rename_i n m;cases rvs with|cons rx rvs=>
  cases rvs with|cons ry rvs=>
  cases rvs;cases rx with|ref hn=>
  cases ry with|ref hm'=>
  cases e1:S1[n]? with
  |none=>simp only[e1] at q1;exact(show False from q1).elim
  |some c1=>
   cases e2:S1[m]? with
   |none=>simp only[e1,e2] at q1;cases c1 <;> exact(show False from q1).elim
   |some c2=>
    simp only[e1,e2] at q1;cases c1 <;> cases c2 <;> first|exact(show False from q1).elim|skip
    obtain⟨a',ha',vs,g1,_⟩:=R1.get e1;obtain⟨b',hb',zs,g2,_⟩:=R1.get e2;rw[hn] at ha';cases ha';rw[hm'] at hb';cases hb';exact⟨false,_,_,vs,zs,rfl,.inl (.inl g1),.inl (.inl g2),Jt (Rel:=Xa Θ) q1 R1 ⟨_,_,hn,hm',rfl⟩⟩
 .exact(show False from q1).elim
end
def Al4 (K:PySem.W.Frag) (a:Addr) (D:List (Str×Str)):Prop:=∀h,K.In h->KTD.TextTab h a (D.map fun p=>(p.1,KTD.Dat.flat (.str p.2)))
def mdW (D:List (Str×Str)):W->M W
 |.str k=>match D.lookup k with
  |some z=>pure (.str z)
  |none=>bad
 |_=>bad
def mdF (D:List (Str×Str)) (g:De->M W):De->M W:=fun δ=>do let y<-g δ;mdW D y
theorem Yr (k:Str):∀D:List (Str×Str),KTD.datumAt k (D.map fun p=>(p.1,KTD.Dat.flat (.str p.2)))=(D.lookup k).map fun z=>KTD.Dat.flat (.str z)
 |[]=>rfl
 |(x,z)::D=>by
  rw[map_cons,lookup_cons,KTD.datumAt];by_cases h:k=x
  .subst h;simp
  .have h':(k==x)=false:=by simpa using h
   rw[if_neg (by simpa using h),h',Yr k D]
section
theorem Ba3 (hT:Al4 X.K A D):IxR X (fun x y H Q=>x=.ref A/\∃k z,y=.str k/\D.lookup k=some z/\Q (.str z) H):=by
 intro value slice aa s σ H x y v u Q I rx ry h hs;obtain⟨rfl,k,z,rfl,l,q⟩:=h;obtain rfl:v=Value.ref A:=rx;obtain⟨t,rfl⟩:=ry;have T:KTD.Here s.heap s.heap A _:=⟨hT _ I.kIn,fun _ _ o=>o⟩;refine tail_any T.typeIs PySem.F.slot_dict_getitem.lookup ?_ hs;unfold getItem
 try with_reducible refine wpAny_holding ?_
 refine wpAny_bind (wpAny_sequenceKey T.typeIs (by decide) (wpAny_bind (wpAny_callSpecial?_slot (name:=Str.ofString "__getitem__") T.typeIs slot_dict_getitem (wpAny_call_entry slot_dict_getitem T.typeIs entry_dict_getitem ?_ (args_dict_getitem _ _)))))
 show wpAny _ _ (dictGet A (.str k t) >>= _) _ _ s;refine wpAny_bind (KTD.dictGet_text T (fun d v ha hv=>wpAny_pure ⟨v,rfl,wpAny_pure ?_⟩) fun hn=>?_)
 .rw[Yr,l] at ha;cases ha;have hv':Reads s.heap v (.str z) []:=hv s.heap;cases hv';exact⟨.str z,H,I.tok _,⟨_,rfl⟩,q⟩
 .rw[Yr,l] at hn;cases hn
theorem Bg5 (hT:Al4 X.K A D) (hm:X.mg x=some (.ref A)) (hg:X.env.kindOf x=some .globalImplicit) (hd:(x==("__debug__":Str))=false) (hb:WE X b (tF Θ E g)) (hs:Tz b):WE X (.Subscript (.Name x p) b pos) (tF Θ E (mdF D g)):=
 WE.weak (kix (Ba3 hT) (Axw hm (show RelV (.ref A) (.ref A) from rfl) hg hd) hb hs) fun σ H Q ⟨ρ,S,δ,R,sl,q⟩=>by
  refine⟨ρ,S,δ,R,sl,(Aw.seq (Rel:=RV Θ) q).mono ?_⟩;rintro v H1 ⟨ρ1,S1,w,p1,t1,R1,rv,q1⟩;refine⟨rfl,?_⟩;cases rv <;> try exact(show False from q1).elim
  rename_i k;cases hz:D.lookup k with
  |none=>simp only[mdW,hz] at q1;exact(show False from q1).elim
  |some z=>
   simp only[mdW,hz] at q1;exact⟨k,z,rfl,hz,Aw.now (Rel:=RV Θ) q1 R1 (.str z)⟩
end
section
variable {i:Nat} {cap:List Nat}
theorem Ben (hc:X.calm=true) (hE:X.env.scope=sc)
  (hi:WI X tg iter wi) (hg:∀C s H ex,WG (X.comp scope own cap C s H ex) tg g) (ht:∀C s H ex,WTs (X.comp scope own cap C s H ex) ifs tt) (he:∀C s H ex,WE (X.comp scope own cap C s H ex) elt te)
  (hcap:cap.all (fun j=>match X.N[j]? with|some x=>decide (scope.names.lookup x=some .free)|none=>false)=true) (az:scope.kind=.function) (ao:scope.names.all (fun y=>decide (y.2≠.cell))=true)
  (au:scope.names.all (fun y=>!decide (y.2=.local)||decide (scope.names.lookup y.1=some .local))=true)
  (bc:scope.names.all (fun y=>!decide (y.2=.free)||(decide (sc.names.lookup y.1=some .cell)||decide (sc.names.lookup y.1=some .free)))=true) (hs:∀x,foldedSetIterable iter X.env x=pure x)
  (hy:WG X (.Name y py) (Mp i)) (hsw:swapsWith (.ListComp elt [⟨tg,iter,ifs,0⟩] scope pos) (some (.Name y py)) spos.line X.env=pure true) :
  WS X (.Assign [.Name y py] (.ListComp elt [⟨tg,iter,ifs,0⟩] scope pos) spos) (Asw (Aaz wi g tt te own cap) (Mp i)):=by
 refine⟨Atm hc hE hi.un (fun C s H ex=>(hg C s H ex).un) (fun C s H ex=>(ht C s H ex).un) (fun C s H ex=>(he C s H ex).un) (fun j hj=>?_) az (fun y hy=>?_) (fun y hy hl=>?_) (fun y hy hl=>?_) hs hy.un hsw⟩
 .have q:=all_eq_true.mp hcap j hj;cases e:X.N[j]? with
  |none=>rw[e] at q;cases q
  |some x=>rw[e] at q;exact⟨x,rfl,of_decide_eq_true q⟩
 .exact of_decide_eq_true (all_eq_true.mp ao y hy)
 .have q:=all_eq_true.mp au y hy;rw[decide_eq_true hl] at q;exact of_decide_eq_true q
 .have q:=all_eq_true.mp bc y hy;rw[decide_eq_true hl,Bool.not_true,Bool.false_or,or_eq_true] at q;exact q.imp of_decide_eq_true of_decide_eq_true
theorem Avj (hc:X.calm=true) (hE:X.env.scope=sc) (hi:WI X tg iter (tFi Θ E src)) (hg:∀C s H ex,WG (X.comp scope own cap C s H ex) tg g) (gk:GOk Θ s g) (ht:∀C s H ex,WTs (X.comp scope own cap C s H ex) ifs (tFb Θ E0s tf)) (he:∀C s H ex,WE (X.comp scope own cap C s H ex) elt (tF Θ E0s ef))
  (hcap:cap.all (fun j=>match X.N[j]? with|some x=>decide (scope.names.lookup x=some .free)|none=>false)=true) (az:scope.kind=.function) (ao:scope.names.all (fun y=>decide (y.2≠.cell))=true)
  (au:scope.names.all (fun y=>!decide (y.2=.local)||decide (scope.names.lookup y.1=some .local))=true)
  (bc:scope.names.all (fun y=>!decide (y.2=.free)||(decide (sc.names.lookup y.1=some .cell)||decide (sc.names.lookup y.1=some .free)))=true) (hs:∀x,foldedSetIterable iter X.env x=pure x)
  (hy:WG X (.Name y py) (Mp i)) (hsw:swapsWith (.ListComp elt [⟨tg,iter,ifs,0⟩] scope pos) (some (.Name y py)) spos.line X.env=pure true) :
  WS X (.Assign [.Name y py] (.ListComp elt [⟨tg,iter,ifs,0⟩] scope pos) spos) (tS Θ E (Bo i (Df own.length cap src s tf ef))):=
 WS.weak (Ben hc hE hi hg ht he hcap az ao au bc hs hy hsw) fun D σ H ⟨ρ,S,δ,R,sl,q⟩=>by
  refine Aes gk _ _ _ ⟨ρ,S,δ,R,sl.2,(Ds.lift (Rel:=RV Θ) sl q).mono ?_⟩;rintro v H1 ⟨ρ1,S1,w,p1,t1,R1,sl1,rv,q1⟩;exact q1.nxt R1 (sl1.set rv)
end
def orM (f g:De->M W):De->M W:=fun δ S=>match f δ S with
 |.bad=>g δ S
 |r=>r
def Ba4 (c:Nat):M W:=fun S=>.ok (.ref S.length) (S ++ [.ins c []])
def Ahk (x v:W):M W:=match v with
 |.non=>pure x
 |_=>bad
def Wi (c:Nat) (g:List W->M W) (ws:List W):M W:=Ba4 c >>= fun x=>g (x::ws) >>= fun v=>Ahk x v
structure Fi where
 g:List W->M W
 np:Nat
 dv:List W
def Aeu (mt:Nat->Str->Option Fi) (m:Str) (x:W):M Fi:=match x with
 |.ref n=>fun S=>match S[n]? with
  |some (.ins c fs)=>match fs.lookup m,mt c m with
   |none,some i=>.ok i S
   |_,_=>.bad
  |_=>.bad
 |_=>bad
def Avk (i:Fi) (x:W) (ws:List W):M W:=if ws.length+1=i.np then i.g (x::ws) else if ws.length+1+i.dv.length=i.np then i.g (x::(ws ++ i.dv)) else bad
def Dk (mt:Nat->Str->Option Fi) (m:Str) (f:De->M W) (gs:De->M (List W)):De->M W:=fun δ=>f δ >>= fun x=>Aeu mt m x >>= fun i=>gs δ >>= fun ws=>Avk i x ws
structure Ahl (Θ:Th) (X:Cx) (c:Nat) (m:Str) (i:Fi):Prop where
 ex:∃(n:Nat) (fa:Addr) (fd:FuncData) (ps:List Str) (cm:Bool),Cls X.K (Θ.cl c)/\Meth X.K (Θ.cl c) m fa/\Gw X.prog X.w X.K X.mg X.base (CXo X.prog X.w) n fa fd ps (spF Θ i.g) cm/\Hc n X.A cm/\Binds X.K fd ps []/\
  ∃dvs ds,Ex D.Jv i.dv=some dvs/\Vals dvs ds/\Binds X.K fd ps ds
structure Ahm (Θ:Th) (X:Cx) (c:Nat) (i:Fi):Prop where
 ex:∃(n:Nat) (fa:Addr) (fd:FuncData) (ps:List Str) (cm:Bool),Mk X.K (Θ.cl c) fa/\Gw X.prog X.w X.K X.mg X.base (CXo X.prog X.w) n fa fd ps (spF Θ i.g) cm/\Hc (n+1) X.A cm/\Binds X.K fd ps []/\
  ∃dvs ds,Ex D.Jv i.dv=some dvs/\Vals dvs ds/\Binds X.K fd ps ds
section
theorem Beo (h1:WE X e (tF Θ E f)) (h2:WE X e (tF Θ E g)) (hh:∀δ S,h δ S=f δ S\/h δ S=g δ S):WE X e (tF Θ E h):=⟨fun aa s σ H Q I ⟨ρ,S,δ,R,sl,q⟩=>by
 rcases hh δ S with z|z
 .rw[z] at q;exact h1.un aa s σ H Q I ⟨ρ,S,δ,R,sl,q⟩
 .rw[z] at q;exact h2.un aa s σ H Q I ⟨ρ,S,δ,R,sl,q⟩⟩
theorem Ba5 (h1:WE X e (tF Θ E f)) (h2:WE X e (tF Θ E g)):WE X e (tF Θ E (orM f g)):=Beo h1 h2 fun δ S=>by
 unfold orM;cases f δ S
 .exact .inl rfl
 .exact .inl rfl
 .exact .inr rfl
theorem Ug {CX:CXT} {k:Nat} {f:Addr} {fd:FuncData} {ps:List Str} {sp:Sp} {dvs vs:List V} {ds us:List Value} {E:L2.St->XK} {cm:Bool} {aa:List (Addr×Obj)} {σ:L2.St} {H:Hp} {s:Shared} {Q:VK}
  (F:Gw X.prog X.w X.K X.mg X.base CX k f fd ps sp cm) (hr:Hc k X.A cm) (hb:Binds X.K fd ps ds) (hd:Vals dvs ds) (hx:Du CX X E) (I:Inv X aa σ H s) (r:Vals vs us) (q:sp (vs ++ dvs) H Q (E σ)) :
  wpAny (model X.prog X.w) X.A (call (.ref f) us) (EP X aa σ Q) X.xe s:=by
 have r2:Vals (vs ++ dvs) (us ++ ds):=r.append hd;have hl:(us ++ ds).length=ps.length:=by rw[<-r2.length];exact F.len _ _ _ _ q
 refine wpAny_call (codeAny_mono (F.run X.A X.stack s H ⟨us,[]⟩ (us ++ ds) (vs ++ dvs) Q (E σ) hr I.env0 (hb s us I.kIn hl) r2 q) fun r s' hq=>?_)
 match r,hq with
 |.error e,hq=>exact hx aa σ H s e s' I hq
 |.ok (.ret u),hq=>exact I.after hq
theorem Kq:∀{dv:List W} {dvs:List V},Ex D.Jv dv=some dvs->RVs Θ ρ H dv dvs
 |[],_,h=>by cases h;exact .nil
 |w::ws,dvs,h=>by
  unfold Ex at h;cases e1:D.Jv w with
  |none=>rw[e1] at h;cases h
  |some v=>
   cases e2:Ex D.Jv ws with
   |none=>rw[e1,e2] at h;cases h
   |some vs=>rw[e1,e2] at h;cases h;exact .cons (Ai9 e1) (Kq e2)
theorem Ri {CX:CXT} {k:Nat} {C f:Addr} {fd:FuncData} {ps:List Str} {sp:Sp} {dvs vs:List V} {ds us:List Value} {E:L2.St->XK} {cm:Bool} {aa:List (Addr×Obj)} {σ:L2.St} {H:Hp} {s:Shared} {Q:VK}
  (M:Mk X.K C f) (F:Gw X.prog X.w X.K X.mg X.base CX k f fd ps sp cm) (hr:Hc (k+1) X.A cm) (hb:Binds X.K fd ps ds) (hd:Vals dvs ds) (hx:Du CX X E) (I:Inv X aa σ H s) (r:Vals vs us)
  (h:∀x dx,H x=none->H dx=none->dx≠x->sp (.ref x::(vs ++ dvs)) (upd (upd H dx (.own x)) x (.ins C dx [])) (fun v H2=>v=.non/\Q (.ref x) H2) (E σ)) :
  wpAny (model X.prog X.w) X.A (call (.ref C) us) (EP X aa σ Q) X.xe s:=by
 have hq:=h (s.heap.objs.size+1) s.heap.objs.size (I.hok.fresh (le_succ _)) (I.hok.fresh (le_refl _)) (ne_of_lt (lt_succ_self _));have I2:=Inv.made (C:=C) I;have r2:Vals (V.ref (s.heap.objs.size+1)::(vs ++ dvs)) (Value.ref (s.heap.objs.size+1)::(us ++ ds)):=.cons rfl (r.append hd);have hl:(Value.ref (s.heap.objs.size+1)::us ++ ds).length=ps.length:=by
  have e:=r2.length;rw[F.len _ _ _ _ hq] at e;exact e.symm
 refine wpAny_call (Anz (f:=f) I.kIn M.makes M.init (beq_iff_eq.mp M.fn) (codeAny_mono (F.run _ X.stack _ _ ⟨Value.ref (s.heap.objs.size+1)::us,[]⟩ (Value.ref (s.heap.objs.size+1)::(us ++ ds)) _ _ (E σ) (hr.make C us [])
  (I2.env0.make C us []) (hb _ (Value.ref (s.heap.objs.size+1)::us) I2.kIn hl) r2 hq) fun r s' hq'=>?_))
 match r,hq' with
 |.error e,hq'=>exact hx aa σ _ _ e s' I2 hq'
 |.ok (.ret u),hq'=>
  obtain⟨v,H',I3,rv,ev,q3⟩:=I2.after hq';subst ev;exact⟨rv,⟨V.ref (s.heap.objs.size+1),H',I3,rfl,q3⟩⟩
theorem Xj {c:Nat} {g:List W->M W} {ρ:List Addr} {S:Store} {H:Hp} {ws:List W} {vs:List V} {Q:VK} {F:XK} (R:Rep Θ ρ S H) (rvs:RVs Θ ρ H ws vs) (q:Aw Θ (RV Θ) ρ H (Wi c g ws S) Q F) :
  ∀x dx,H x=none->H dx=none->dx≠x->spF Θ g (.ref x::vs) (upd (upd H dx (.own x)) x (.ins (Θ.cl c) dx [])) (fun v H2=>v=.non/\Q (.ref x) H2) F:=by
 intro x dx hx hdx ne;have R1:Rep Θ ρ S (upd H dx (.own x)):=R.beside hdx;have hx1:upd H dx (.own x) x=none:=by rw[Ax (Ne.symm ne)];exact hx
 have t1:Cy ρ ρ H (upd H dx (.own x)):=Cm hdx;have t2:Cy ρ (ρ ++ [x]) (upd H dx (.own x)) (upd (upd H dx (.own x)) x (.ins (Θ.cl c) dx [])):=Cm hx1;have R2:Rep Θ (ρ ++ [x]) (S ++ [.ins c []]) (upd (upd H dx (.own x)) x (.ins (Θ.cl c) dx [])):=R1.alloc hx1 ⟨dx,[],Bm,.nil⟩;have tt:=t1.trans t2;have pp:ρ <+: ρ ++ [x]:=prefix_append _ _;have hxn:(ρ ++ [x])[S.length]?=some x:=by rw[<-R.len];exact Li
 refine⟨ρ ++ [x],S ++ [.ins c []],.ref S.length::ws,R2,.cons (.ref hxn) (rvs.mono pp tt),?_⟩;have q:Aw Θ (RV Θ) ρ H ((g (.ref S.length::ws) >>= fun v=>Ahk (.ref S.length) v) (S ++ [.ins c []])) Q F:=q;have q:Aw Θ (RV Θ) ρ H (M.bind (g (.ref S.length::ws)) (fun v=>Ahk (.ref S.length) v) (S ++ [.ins c []])) Q F:=q;unfold M.bind at q;cases eg:g (.ref S.length::ws) (S ++ [.ins c []]) with
 |bad=>rw[eg] at q;exact q.elim
 |exc c' S3=>
  rw[eg] at q;intro ρ' H' p' t' R';exact q ρ' H' (pp.trans p') (tt.trans t') R'
 |ok w S3=>
  rw[eg] at q;intro ρ' H' v p' t' R' rv;cases w with
  |non=>
   cases rv;refine⟨rfl,q ρ' H' (.ref x) (pp.trans p') (tt.trans t') R' (.ref ?_)⟩;obtain⟨r,rfl⟩:=p';rw[getElem?_append_left (by rw[length_append,R.len,length_singleton];omega)]
   exact hxn
  |_=>exact(show False from q).elim
theorem Apv {c:Nat} (hM:Ahm Θ X c i) (hx:Du (CXo X.prog X.w) X E) (hm:X.mg x=some (.ref (Θ.cl c))) (ha:WA X (e::es) (tFs Θ E gs)) (hg:X.env.kindOf x=some .globalImplicit) (hdb:(x==("__debug__":Str))=false)
  (he:starEach (e::es) X.env=(false,eval e X.env)::starEach es X.env) (hpl:(backTo pos (starEach es X.env)).any (·.1)=false) (more:Bool) :
  WE X (.Call (.Name x p) (e::es) [] pos) (tF Θ E (Ae (fun ws=>Wi c i.g (if more then ws ++ i.dv else ws)) gs)):=⟨fun aa s σ H Q I ⟨ρ,S,δ,R,sl,q⟩=>by
 obtain⟨n,fa,fd,ps,cm,M,F,hr,hb0,dvs,ds,hd1,hd2,hb⟩:=hM.ex;refine wpAny_Call_Name_kw (Lh I hg hm ?_ hdb);refine callWith_K (h₀:=X.base) I.ok.mod.kin M.kp (thn (ha.un pos aa s σ H _ I ⟨ρ,S,δ,R,sl,Aw.seq (Rel:=RVs Θ) q⟩) fun us s1 ⟨vs,H1,I1,r,ρ1,S1,ws,p1,t1,R1,rvs,q1⟩=>⟨I1.kIn,?_⟩) he hpl;cases more with
 |true=>exact Ri M F hr hb hd2 hx I1 r (Xj R1 (rvs.append (Kq hd1)) q1)
 |false=>exact Ri (dvs:=[]) M F hr hb0 .nil hx I1 r (by rw[append_nil];exact Xj R1 rvs q1)⟩
theorem Ajf {c:Nat} (hM:Ahm Θ X c i) (hx:Du (CXo X.prog X.w) X E) (hm:X.mg x=some (.ref (Θ.cl c))) (hg:X.env.kindOf x=some .globalImplicit) (hdb:(x==("__debug__":Str))=false) (more:Bool) :
  WE X (.Call (.Name x p) [] [] pos) (tF Θ E (Ae (fun ws=>Wi c i.g (if more then ws ++ i.dv else ws)) nilF)):=⟨fun aa s σ H Q I ⟨ρ,S,δ,R,sl,q⟩=>by
 obtain⟨n,fa,fd,ps,cm,M,F,hr,hb0,dvs,ds,hd1,hd2,hb⟩:=hM.ex;refine wpAny_Call_Name_kw (Lh I hg hm ?_ hdb);obtain⟨ρ1,S1,ws,p1,t1,R1,rvs,q1⟩:=Aw.seq (Rel:=RVs Θ) q ρ H [] (prefix_refl _) (Cy.refl _ _) R .nil;cases rvs;cases more with
 |true=>exact callWith_K0 I.kIn M.kp (Ri (us:=[]) (vs:=[]) M F hr hb hd2 hx I .nil (Xj R1 (RVs.append .nil (Kq hd1)) q1))
 |false=>exact callWith_K0 I.kIn M.kp (Ri (us:=[]) (vs:=[]) (dvs:=[]) M F hr hb0 .nil hx I .nil (Xj R1 .nil q1))⟩
theorem call_meth {prog:Program} {w:World} {A:Around} {E:Value->Shared->Prop} {s:Shared} {env:Env} {name:Str} {args:List Expr} {Q:Value->Shared->Prop}
  (bf:attributeBase o name env (eval o env)=eval o env)
  (hfew:((backTo cpos (starEach args env)).all (fun x=>!x.1)&&(backToKw cpos (keywordEach [] env)).all (fun x=>x.1.isSome)&&decide (args.length+([]:List Keyword).length+(if ([]:List Keyword).isEmpty then 0 else 1) < 30))=true)
  (aq:(ak.endLine==cpos.line)=true)
  (h:wpAny (model prog w) A (eval o env) (fun ov s₁=>∀pl:Sem Bool,wpAny (model prog w) A (getMethod ov name pl) (fun r s₂=>wpAny (model prog w) A (callWith cpos r.1 r.2 (backTo cpos (starEach args env)) (backToKw cpos (keywordEach [] env))) Q E s₂) E s₁) E s) :
  wpAny (model prog w) A (eval (.Call (.Attribute o name ak) args [] cpos) env) Q E s:=by
 rw[arm_eval_Call,bf];refine wpAny_bind (wpAny_mono h (fun ov s₁ h₁=>?_) fun _ _ e=>e);refine wpAny_bind (wpAny_standAt ?_);have hform:methodCallForm (args.length+([]:List Keyword).length) (backTo cpos (starEach args env)) (backToKw cpos (keywordEach [] env))=true:=hfew;have hpos:methodCallPos true o env ak cpos=pure cpos:=by unfold methodCallPos;simp[aq]
 unfold methodCall;rw[hform];refine wpAny_bind (wpAny_holding (wpAny_mono (h₁ _) (fun r s₂ h₂=>?_) fun _ _ e=>e));exact wpAny_bind (wpAny_of_eq hpos h₂)
theorem RFs.lookN (r:RFs Θ ρ H fs vs) (f:Str) (h:fs.lookup f=none):vs.lookup f=none:=by
 unfold RFs at r;induction r with
 |nil=>rfl
 |@cons p q _ _ hh r ih=>
  obtain⟨p1,p2⟩:=p;obtain⟨q1,q2⟩:=q;obtain⟨e,rv⟩:=hh;cases (show p1=q1 from e);rw[lookup_cons] at h ⊢
  by_cases ef:(f==p1)=true
  .rw[ef] at h;cases h
  .rw[not_eq_true] at ef;rw[ef] at h ⊢;exact ih h
theorem Aev {mt:Nat->Str->Option Fi} {β:Type} {Rel:List Addr->Hp->W->β->Prop} {Q:β->Hp->Prop} (R:Rep Θ ρ S H) (rx:RV Θ ρ H x v) (q:Aw Θ Rel ρ H ((Aeu mt m x >>= k) S) Q F) :
  ∃a c dx fs i,v=.ref a/\H a=some (.ins (Θ.cl c) dx fs)/\fs.lookup m=none/\mt c m=some i/\Aw Θ Rel ρ H (k i S) Q F:=by
 have q:Aw Θ Rel ρ H (M.bind (Aeu mt m x) k S) Q F:=q;unfold M.bind at q;cases rx <;> try exact(show False from q).elim
 rename_i n a hn _;simp only[Aeu] at q;cases e1:S[n]? with
 |none=>rw[e1] at q;exact(show False from q).elim
 |some cell=>
  rw[e1] at q;cases cell with
  |lst _=>exact(show False from q).elim
  |dct _=>exact(show False from q).elim
  |ins c fs=>
   obtain⟨a',ha',dx,vs,h2,r2⟩:=R.get e1;rw[hn] at ha';cases ha';dsimp only at q;cases e2:fs.lookup m with
   |some _=>rw[e2] at q;exact(show False from q).elim
   |none=>
    cases e3:mt c m with
    |none=>rw[e2,e3] at q;exact(show False from q).elim
    |some i=>
     rw[e2,e3] at q;refine⟨a,c,dx,vs,i,rfl,h2,?_,e3,q⟩;exact r2.lookN m e2
theorem Ba6 {mt:Nat->Str->Option Fi} {m:Str} (hmt:∀c i,mt c m=some i->Ahl Θ X c m i) (hx:Du (CXo X.prog X.w) X E) (ho:WE X o (tF Θ E f)) (ha:WA X (e::es) (tFs Θ E gs)) (bf:attributeBase o m X.env (eval o X.env)=eval o X.env)
  (hfew:((backTo cpos (starEach (e::es) X.env)).all (fun x=>!x.1)&&(backToKw cpos (keywordEach [] X.env)).all (fun x=>x.1.isSome)&&decide ((e::es).length+([]:List Keyword).length+(if ([]:List Keyword).isEmpty then 0 else 1) < 30))=true)
  (aq:(ak.endLine==cpos.line)=true) (he:starEach (e::es) X.env=(false,eval e X.env)::starEach es X.env) (hpl:(backTo cpos (starEach es X.env)).any (·.1)=false) :
  WE X (.Call (.Attribute o m ak) (e::es) [] cpos) (tF Θ E (Dk mt m f gs)):=⟨fun aa s σ H Q I ⟨ρ,S,δ,R,sl,q⟩=>by
 refine call_meth bf hfew aq (thn (ho.un aa s σ H _ I ⟨ρ,S,δ,R,sl,Aw.seq (Rel:=RV Θ) q⟩) fun u s1 ⟨x,H1,I1,rx,ρ1,S1,w,p1,t1,R1,rv,q1⟩ pl=>?_);obtain⟨a,c,dx,fs,i,rfl,ea,l,hi,q2⟩:=Aev R1 rv q1;obtain rfl:u=Value.ref a:=rx;obtain⟨n,fa,fd,ps,cm,C,hm,F,hr,hb0,dvs,ds,hd1,hd2,hb⟩:=(hmt c i hi).ex;refine X4 I1 ea C hm l ?_;refine callWith_K (first:=[.ref a]) (h₀:=X.base) I.ok.mod.kin hm.kp (thn (ha.un cpos aa s1 σ H1 _ I1 ⟨ρ1,S1,δ,R1,sl.mono p1 t1,Aw.seq (Rel:=RVs Θ) q2⟩) fun us s2 ⟨vs,H2,I2,r,ρ2,S2,ws,p2,t2,R2,rvs,q3⟩=>⟨I2.kIn,?_⟩) he hpl
 unfold Avk at q3;split at q3
 .exact Ug (us:=.ref a::us) (vs:=.ref a::vs) (dvs:=[]) F hr hb0 .nil hx I2 (.cons rfl r) ⟨ρ2,S2,w::ws,R2,by rw[append_nil];exact .cons (rv.mono p2 t2) rvs,q3⟩
 .split at q3
  .exact Ug (us:=.ref a::us) (vs:=.ref a::vs) F hr hb hd2 hx I2 (.cons rfl r) ⟨ρ2,S2,w::(ws ++ i.dv),R2,.cons (rv.mono p2 t2) (rvs.append (Kq hd1)),q3⟩
  .exact(show False from q3).elim⟩
theorem Avl {mt:Nat->Str->Option Fi} {m:Str} (hmt:∀c i,mt c m=some i->Ahl Θ X c m i) (hx:Du (CXo X.prog X.w) X E) (ho:WE X o (tF Θ E f)) (bf:attributeBase o m X.env (eval o X.env)=eval o X.env) (aq:(ak.endLine==cpos.line)=true) :
  WE X (.Call (.Attribute o m ak) [] [] cpos) (tF Θ E (Dk mt m f nilF)):=⟨fun aa s σ H Q I ⟨ρ,S,δ,R,sl,q⟩=>by
 refine call_meth bf (by rfl) aq (thn (ho.un aa s σ H _ I ⟨ρ,S,δ,R,sl,Aw.seq (Rel:=RV Θ) q⟩) fun u s1 ⟨x,H1,I1,rx,ρ1,S1,w,p1,t1,R1,rv,q1⟩ pl=>?_)
 obtain⟨a,c,dx,fs,i,rfl,ea,l,hi,q2⟩:=Aev R1 rv q1;obtain rfl:u=Value.ref a:=rx;obtain⟨n,fa,fd,ps,cm,C,hm,F,hr,hb0,dvs,ds,hd1,hd2,hb⟩:=(hmt c i hi).ex;refine X4 I1 ea C hm l ?_;obtain⟨ρ2,S2,ws,p2,t2,R2,rvs,q3⟩:=Aw.seq (Rel:=RVs Θ) q2 ρ1 H1 [] (prefix_refl _) (Cy.refl _ _) R1 .nil;cases rvs;refine callWith_K0 (first:=[.ref a]) I1.kIn hm.kp ?_
 unfold Avk at q3;split at q3
 .exact Ug (us:=[.ref a]) (vs:=[.ref a]) (dvs:=[]) F hr hb0 .nil hx I1 (.cons rfl .nil) ⟨ρ2,S2,[w],R2,.cons (rv.mono p2 t2) .nil,q3⟩
 .split at q3
  .exact Ug (us:=[.ref a]) (vs:=[.ref a]) F hr hb hd2 hx I1 (.cons rfl .nil) ⟨ρ2,S2,w::i.dv,R2,.cons (rv.mono p2 t2) (Kq hd1),q3⟩
  .exact(show False from q3).elim⟩
end
def noStar:Expr->Bool
 |.Starred _ _=>false
 |_=>true
def Aa9:Expr->Bool
 |.Set _ _ _=>false
 |_=>true
def Acx:Expr->Bool
 |.ListComp _ _ _ _=>false
 |.SetComp _ _ _ _=>false
 |.DictComp _ _ _ _ _=>false
 |_=>true
def Ahn:Expr->Bool
 |.Call _ _ _ _=>false
 |_=>true
def Ajg:Expr->Bool
 |.Slice _ _ _ _=>false
 |_=>true
def plainT:Expr->Bool
 |.UnaryOp .Not _ _=>false
 |.BoolOp _ _ _=>false
 |.IfExp _ _ _ _=>false
 |.Compare _ _ _ _=>false
 |_=>true
section
theorem Jy (h:noStar a=true):starEach (a::es) env=(false,eval a env)::starEach es env:=by
 cases a <;> first|rfl|cases h
theorem Gx:∀{es:List Expr},es.all noStar=true->(backTo pos (starEach es env)).any (·.1)=false
 |[],_=>rfl
 |e::es,h=>by
  rw[all_cons,and_eq_true] at h;rw[Jy h.1];exact Gx h.2
theorem Aew:∀{es:List Expr},es.all noStar=true->(backTo pos (starEach es env)).all (fun x=>!x.1)=true
 |[],_=>rfl
 |e::es,h=>by
  rw[all_cons,and_eq_true] at h;rw[Jy h.1];exact Aew h.2
theorem Acy (h:Aa9 a=true):∀x,foldedSetIterable a env x=pure x:=fun x=>by
 cases a <;> first|rfl|cases h
theorem Uh (h:Aa9 b=true):behindInMarks op b=false:=by
 cases b <;> first|rfl|cases h
theorem Ajh {n:Nat} (h:Acx a=true):swapsWith a t n env=pure false:=by
 cases a <;> first|rfl|cases h
theorem Xk (h:Ahn a=true):attributeBase a x env (eval a env)=eval a env:=by
 cases a <;> first|rfl|cases h
theorem Axy (h:Ajg b=true):Tz b:=by
 cases b <;> first|exact fun _ _=>rfl|cases h
theorem Aji (h:plainT a=true):∀whole,isTrue a env whole=(do let v<-whole;standAt a.pos;holding [v] (truthy v)):=fun w=>by
 cases a <;> first|rfl|cases h|skip
 rename_i op o p;cases op <;> first|rfl|cases h
end
def Aho (x:Str):List Str->Option Nat
 |[]=>none
 |y::ys=>if y=x then some 0 else (Aho x ys).map (·+1)
theorem Xl:∀{l:List Str} {i:Nat},Aho x l=some i->l[i]?=some x
 |[],_,h=>by cases h
 |y::ys,i,h=>by
  unfold Aho at h;split at h
  .rename_i e;cases h;subst e;rfl
  .obtain⟨j,h1,rfl⟩:=map_eq_some_iff.mp h;simpa using Xl h1
structure Gm where
 N:List Str
 sc:Scope
 fn:Str->Option Fi
 con:Str->Option W
 bi:Str->Bool
 exc:Str->Option Nat
 isa:Nat->W->Option Bool
 ns:List Int
 fld:Bool->Nat->Str->Bool
 fuel:Nat
 calm:Bool
 fnB:Bool
 rs:Bool
 mdc:Str->Option (List (Str×Str))
 exi:Str->Option (Nat×List W)
 hcl:Str->Option Nat
 exm:Nat->Nat->Bool
 loops:Bool
 tr:Bool
 mt:Nat->Str->Option Fi
 mn:Str->Bool
 mkc:Str->Option (Nat×Fi)
structure Gm.Ok (Θ:Th) (Γ:Gm) (X:Cx) (E:L2.St->XK):Prop where
 hK:X.K=Θ.K
 ns:Γ.ns=Θ.ns
 hu:X.A.units+64 < cLine
 N:X.N=Γ.N
 nd:X.N.Nodup
 sc:X.env.scope=Γ.sc
 fn:∀x i,Γ.fn x=some i->∃(n:Nat) (fa:Addr) (fd:FuncData) (ps:List Str) (df:Stmt) (cm:Bool),Og X.K X.mg x df ps fa fd/\Gw X.prog X.w X.K X.mg X.base (CXo X.prog X.w) n fa fd ps (spF Θ i.g) cm/\Hc n X.A cm/\
  ∃dvs ds,Ex D.Jv i.dv=some dvs/\Vals dvs ds/\Binds X.K fd ps ds
 ps:Du (CXo X.prog X.w) X E
 con:∀x w,Γ.con x=some w->∃v u,(∀ρ H,RV Θ ρ H w v)/\RelV v u/\(X.mg x=some u\/(X.mg x=none/\bootBuiltins x=some u))
 bi:∀x,Γ.bi x=true->X.mg x=none
 fld:FOk Θ Γ.fld
 isa:Aet Θ Γ.isa
 calm:Γ.calm=true->X.calm=true
 fnB:Γ.fnB=true->∀x,X.fn x=true
 mdc:∀x D,Γ.mdc x=some D->∃a,Al4 X.K a D/\X.mg x=some (.ref a)
 mt:∀c m i,Γ.mt c m=some i->Ahl Θ X c m i
 mkc:∀x c i,Γ.mkc x=some (c,i)->X.mg x=some (.ref (Θ.cl c))/\Ahm Θ X c i
structure Rd where
 val:De->M W
 tst:De->M Bool
 base:De->M W
 lo:De->M (Option Int)
 hi:De->M (Option Int)
 src:De->M Src
 srcT:De->M Src
def Dv {α:Type}:De->M α:=fun _=>bad
def Rd.no:Rd:=⟨Dv,Dv,Dv,Dv,Dv,Dv,Dv⟩
def Rd.of (ns:List Int) (f:De->M W):Rd:=⟨f,Ay f,Dv,Dv,Dv,Eh ns f,Eh ns f⟩
structure Le (Θ:Th) (X:Cx) (E:L2.St->XK) (e:Expr) (r:Rd):Prop where
 val:WE X e (tF Θ E r.val)
 tst:WT X e (tFb Θ E r.tst)
 base:∀o n p,e=.Attribute o n p->WE X o (tF Θ E r.base)
 lo:∀lo hi p,e=.Slice lo hi none p->WO X lo (tFo Θ E r.lo)
 hi:∀lo hi p,e=.Slice lo hi none p->WO X hi (tFo Θ E r.hi)
 src:∀tg,WI X tg e (tFi Θ E r.src)
 srcT:∀es k p,WI X (.Tuple es k p) e (tFi Θ E r.srcT)
inductive Hi (Θ:Th) (X:Cx) (E:L2.St->XK):List Expr->List Rd->Prop
 |nil:Hi Θ X E [] []
 |cons {e:Expr} {es:List Expr} {r:Rd} {rs:List Rd}:Le Θ X E e r->Hi Θ X E es rs->Hi Θ X E (e::es) (r::rs)
section
theorem Cq:WE X e (tF Θ E Dv):=⟨fun _ _ _ _ _ _ ⟨_,_,_,_,_,q⟩=>False.elim q⟩
theorem Apw:WT X e (tFb Θ E Dv):=⟨fun _ _ _ _ _ _ ⟨_,_,_,_,_,q⟩=>False.elim q⟩
theorem Apx:WW X e (tFb Θ E Dv):=⟨fun _ _ _ _ _ _ _ ⟨_,_,_,_,_,q⟩=>False.elim q⟩
theorem O5:WO X u (tFo Θ E Dv):=⟨fun _ _ _ _ _ _ ⟨_,_,_,_,_,q⟩=>False.elim q⟩
theorem Ys:WI X tg e (tFi Θ E Dv):=⟨fun _ _ _ _ _ _ ⟨_,_,_,_,_,q⟩=>False.elim q⟩
theorem Hj:Le Θ X E e Rd.no:=⟨Cq,Apw,fun _ _ _ _=>Cq,fun _ _ _ _=>O5,fun _ _ _ _=>O5,fun _=>Ys,fun _ _ _=>Ys⟩
theorem Ms {ns:List Int} (hK:X.K=Θ.K) (hn:ns=Θ.ns) (h:WE X e (tF Θ E f)) (ht:plainT e=true):Le Θ X E e (Rd.of ns f):=by
 subst hn;exact⟨h,Apk h (Aji ht),fun _ _ _ _=>Cq,fun _ _ _ _=>O5,fun _ _ _ _=>O5,fun _=>Aep hK h,fun _ _ _=>Aep hK h⟩
theorem Ui {ns:List Int} (hK:X.K=Θ.K) (hn:ns=Θ.ns) (h:WE X e (tF Θ E f)) (ht:WT X e (tFb Θ E t)):Le Θ X E e { Rd.of ns f with tst:=t }:=by
 subst hn;exact⟨h,ht,fun _ _ _ _=>Cq,fun _ _ _ _=>O5,fun _ _ _ _=>O5,fun _=>Aep hK h,fun _ _ _=>Aep hK h⟩
def vals:List Rd->De->M (List W)
 |[]=>nilF
 |r::rs=>Aa r.val (vals rs)
theorem Ni:∀{es:List Expr} {rs:List Rd},Hi Θ X E es rs->es.all noStar=true->WA X es (tFs Θ E (vals rs))
 |_,_,.nil,_=>Bd8
 |_,_,.cons h r,hs=>by
  rw[all_cons,and_eq_true] at hs;exact Bac h.val (Ni r hs.2) (Jy hs.1)
def Apy:Const->De->M W
 |.int i=>kF (.int i)
 |.bool b=>kF (.bl b)
 |.none=>kF .non
 |.str x=>kF (.str x)
 |_=>Dv
theorem Apz {j:Nat}:WE X (.Constant v j pos) (tF Θ E (Apy v)):=by
 cases v <;> first|exact Cq|skip
 .exact Aco rfl Bf3
 .exact Aco rfl kbl
 .exact Aco rfl Bf2
 .exact Aco rfl Bf4
def Ap0 (Γ:Gm) (x:Str):De->M W:=if x==("__debug__":Str)||x==("__classdict__":Str)||decide (x=("__name__":Str)) then Dv else
 match Γ.sc.names.lookup x with
 |some .globalImplicit=>match Γ.con x with
  |some w=>kF w
  |none=>Dv
 |_=>match Aho x Γ.N with
  |some i=>if Ahb Γ.sc x then Ac i else Dv
  |none=>Dv
theorem Avm (G:Γ.Ok Θ X E):WE X (.Name x pos) (tF Θ E (Ap0 Γ x)):=by
 unfold Ap0;split
 .exact Cq
 rename_i h0;rw[or_eq_true,or_eq_true,not_or,not_or] at h0;obtain⟨⟨h1,h2⟩,h3⟩:=h0;have h1:=eq_false_iff.mpr h1;have h2:=eq_false_iff.mpr h2;split
 .rename_i hg;split
  .rename_i w hw;obtain⟨v,u,hv,r,hm⟩:=G.con x w hw;have hg':X.env.kindOf x=some .globalImplicit:=by show X.env.scope.names.lookup x=_;rw[G.sc];exact hg
   rcases hm with hm|⟨hm,hb⟩
   .exact Apt hv (Axw hm r hg' h1)
   .exact Apt hv (Bds hm hb r hg' (eq_false_iff.mpr h3) h1)
  .exact Cq
 .split
  .rename_i i hi;split
   .rename_i hv;exact Bd5 (kv i (by rw[G.N];exact Xl hi) (by rw[G.sc];exact hv) h1 h2)
   .exact Cq
  .exact Cq
def Ba7 (op:Operator) (a b:Rd):De->M W:=match Bop.of op with
 |some o=>Ao o a.val b.val
 |none=>Dv
theorem Ba8 {Γ:Gm} {op:Operator} {r s:Rd} (G:Γ.Ok Θ X E) (ha:Le Θ X E a r) (hb:Le Θ X E b s):WE X (.BinOp a op b pos) (tF Θ E (Ba7 op r s)):=by
 unfold Ba7;split
 .rename_i o ho;exact Bd4 G.hK ho ha.val hb.val
 .exact Cq
def Xc (f:De->M W):De->M W:=fun δ=>do let x<-f δ;match x with
 |.int i=>pure (.int (-i))
 |_=>bad
theorem Bep (ha:WE X a (tF Θ E f)):WE X (.UnaryOp .USub a pos) (tF Θ E (Xc f)):=WE.weak (kun Ay4 ha) fun σ H Q ⟨ρ,S,δ,R,sl,q⟩=>by
 refine⟨ρ,S,δ,R,sl,(Aw.seq (Rel:=RV Θ) q).mono ?_⟩;rintro v H1 ⟨ρ1,S1,w,p1,t1,R1,rv,q1⟩;cases rv <;> first|exact(show False from q1).elim|skip
 exact⟨_,rfl,q1.now R1 (.int _)⟩
def unR (ns:List Int) (op:UnaryOp) (r:Rd):Rd:=match op with
 |.Not=>{ Rd.of ns (Aae r.val) with tst:=Ld r.tst }
 |.USub=>Rd.of ns (Xc r.val)
 |_=>Rd.no
theorem Beq {Γ:Gm} {op:UnaryOp} {r:Rd} (G:Γ.Ok Θ X E) (ha:Le Θ X E a r):Le Θ X E (.UnaryOp op a pos) (unR Γ.ns op r):=by
 cases op
 .exact Hj
 .exact Ui G.hK G.ns (Bd7 ha.val) (Bat ha.tst)
 .exact Hj
 .exact Ms G.hK G.ns (Bep ha.val) rfl
def Ba9:List Rd->De->M W
 |[]=>Dv
 |[r]=>r.val
 |r::s::rs=>Ff r.val (Ba9 (s::rs))
def orV:List Rd->De->M W
 |[]=>Dv
 |[r]=>r.val
 |r::s::rs=>orF r.val (orV (s::rs))
def Ap1:List Rd->De->M Bool
 |[]=>Dv
 |[r]=>r.tst
 |r::s::rs=>Acv r.tst (Ap1 (s::rs))
def Bba:List Rd->De->M Bool
 |[]=>Dv
 |[r]=>r.tst
 |r::s::rs=>orT r.tst (Bba (s::rs))
theorem Ajj:∀{es:List Expr} {rs:List Rd},Hi Θ X E es rs->WE X (.BoolOp .And es pos) (tF Θ E (Ba9 rs))
 |_,_,.nil=>Cq
 |_,_,.cons h .nil=>Bdt h.val
 |_,_,.cons h (.cons h2 r)=>Bd6 h.val (Ajj (.cons h2 r))
theorem Ap2:∀{es:List Expr} {rs:List Rd},Hi Θ X E es rs->WE X (.BoolOp .Or es pos) (tF Θ E (orV rs))
 |_,_,.nil=>Cq
 |_,_,.cons h .nil=>Bdt h.val
 |_,_,.cons h (.cons h2 r)=>Bgo h.val (Ap2 (.cons h2 r))
theorem Aex:∀{es:List Expr} {rs:List Rd},Hi Θ X E es rs->WW X (.BoolOp .And es pos) (tFb Θ E (Ap1 rs))
 |_,_,.nil=>Apx
 |_,_,.cons h .nil=>Bdu h.tst
 |_,_,.cons h (.cons h2 r)=>Bas h.tst (Aex (.cons h2 r))
theorem Ajk:∀{es:List Expr} {rs:List Rd},Hi Θ X E es rs->WW X (.BoolOp .Or es pos) (tFb Θ E (Bba rs))
 |_,_,.nil=>Apx
 |_,_,.cons h .nil=>Bgd h.tst
 |_,_,.cons h (.cons h2 r)=>Beh h.tst (Ajk (.cons h2 r))
def Axz (ns:List Int) (op:BoolOp) (rs:List Rd):Rd:=match op with
 |.And=>{ Rd.of ns (Ba9 rs) with tst:=Ap1 rs }
 |.Or=>{ Rd.of ns (orV rs) with tst:=Bba rs }
theorem Avn {Γ:Gm} {op:BoolOp} {rs:List Rd} (G:Γ.Ok Θ X E) (h:Hi Θ X E es rs):Le Θ X E (.BoolOp op es pos) (Axz Γ.ns op rs):=by
 cases op
 .exact Ui G.hK G.ns (Ajj h) (tw (Aex h))
 .exact Ui G.hK G.ns (Ap2 h) (tw (Ajk h))
def Bbb (ns:List Int) (ops:List CmpOp) (bs:List Expr) (r:Rd) (rs:List Rd):Rd:=match ops,bs,rs with
 |[op],[b],[s]=>if Aa9 b then { Rd.of ns (Bf op r.val s.val) with tst:=Ay (Bf op r.val s.val) } else Rd.no
 |[op,op'],[_,c],[s,t]=>if Aa9 c then { Rd.of ns (Kp op op' r.val s.val t.val) with tst:=Ay (Kp op op' r.val s.val t.val) } else Rd.no
 |_,_,_=>Rd.no
theorem Bbc {Γ:Gm} {ops:List CmpOp} {r:Rd} {rs:List Rd} (G:Γ.Ok Θ X E) (ha:Le Θ X E a r) (h:Hi Θ X E es rs):Le Θ X E (.Compare a ops es pos) (Bbb Γ.ns ops es r rs):=by
 unfold Bbb;split
 .rename_i op b s;cases h with|cons hb _=>
  split
  .rename_i hn;exact Ui G.hK G.ns (Bed G.hK G.hu ha.val hb.val (Uh hn)) (Bai G.hK G.hu ha.val hb.val (Uh hn))
  .exact Hj
 .rename_i op op' b c s t;cases h with|cons hb h=>
  cases h with|cons hc _=>
  split
  .rename_i hn;exact Ui G.hK G.ns (Avc G.hK G.hu ha.val hb.val hc.val (Uh hn)) (Apn G.hK G.hu ha.val hb.val hc.val (Uh hn))
  .exact Hj
 .exact Hj
def Bbd (es:List Expr) (rs:List Rd):De->M W:=if es.all noStar then Jk (vals rs) else Dv
def Bbe (es:List Expr) (rs:List Rd):De->M W:=if es.all noStar then Oj (vals rs) else Dv
theorem Bbf {j:Nat} (h:Hi Θ X E es rs):WE X (.Tuple es j pos) (tF Θ E (Bbd es rs)):=by
 unfold Bbd;split
 .rename_i hs;exact Bd9 (Ni h hs)
 .exact Cq
theorem Bbg (h:Hi Θ X E es rs):WE X (.List es pos) (tF Θ E (Bbe es rs)):=by
 unfold Bbe;split
 .rename_i hs;exact Bea (Ni h hs)
 .exact Cq
def Aey:List (Option Rd)->List Rd->Option (List ((De->M W)×(De->M W)))
 |[],[]=>some []
 |some k::ks,v::vs=>(Aey ks vs).map ((k.val,v.val)::·)
 |_,_=>none
def Ap3 (ks:List (Option Rd)) (vs:List Rd):De->M W:=match Aey ks vs with
 |some l=>if decide (l.length<=15) then Oh l else Dv
 |none=>Dv
inductive O6 (Θ:Th) (X:Cx) (E:L2.St->XK):List (Option Expr)->List (Option Rd)->Prop
 |nil:O6 Θ X E [] []
 |none {es:List (Option Expr)} {rs:List (Option Rd)}:O6 Θ X E es rs->O6 Θ X E (none::es) (none::rs)
 |some {e:Expr} {r:Rd} {es:List (Option Expr)} {rs:List (Option Rd)}:Le Θ X E e r->O6 Θ X E es rs->O6 Θ X E (some e::es) (some r::rs)
theorem Aez:∀{ks:List (Option Expr)} {vs:List Expr} {rk:List (Option Rd)} {rv:List Rd} {l:List ((De->M W)×(De->M W))},O6 Θ X E ks rk->Hi Θ X E vs rv->Aey rk rv=Option.some l->
  WPs X pos ks vs (l.map fun p=>(tF Θ E p.1,tF Θ E p.2))/\ks.all (·.isSome)=true/\ks.length=vs.length/\l.length=ks.length
 |_,_,_,_,l,.nil,.nil,h=>by cases h;exact⟨Azu,rfl,rfl,rfl⟩
 |_,_,_,_,l,.nil,.cons _ _,h=>by cases h
 |_,_,_,_,l,.none _,_,h=>by unfold Aey at h;cases h
 |_,_,_,_,l,.some _ _,.nil,h=>by cases h
 |_,_,_,_,l,.some hk rk,.cons hv rv,h=>by
  unfold Aey at h;obtain⟨l',h1,rfl⟩:=map_eq_some_iff.mp h;obtain⟨q1,q2,q3,q4⟩:=Aez rk rv h1;exact⟨Atz hk.val hv.val q1,by rw[all_cons,q2];rfl,by rw[length_cons,length_cons,q3],by rw[length_cons,length_cons,q4]⟩
theorem Avo (hk:O6 Θ X E ks rk) (hv:Hi Θ X E es rv):WE X (.Dict ks es pos) (tF Θ E (Ap3 rk rv)):=by
 unfold Ap3;split
 .rename_i l hl;obtain⟨q1,q2,q3,q4⟩:=Aez (pos:=pos) hk hv hl;split
  .rename_i h15;cases ks with
   |nil=>
    cases es with
    |nil=>
     cases l with
     |nil=>exact Baw
     |cons p l=>cases q4
    |cons e es=>cases q3
   |cons k ks=>exact Bax q1 q2 q3 (by simp) (by rw[<-q4];exact of_decide_eq_true h15) q4
  .exact Cq
 .exact Cq
def Ber (Γ:Gm):Expr->Option (List (Str×Str))
 |.Name x _=>if !(x==("__debug__":Str))&&decide (Γ.sc.names.lookup x=some .globalImplicit) then Γ.mdc x else none
 |_=>none
def subV (Γ:Gm) (a i:Expr) (o r:Rd):De->M W:=match Ber Γ a with
 |some D=>if Ajg i then mdF D r.val else Dv
 |none=>match i with
  |.Slice _ _ none _=>slF Γ.ns o.val r.lo r.hi
  |.Slice _ _ (some _) _=>Dv
  |_=>ixF Γ.ns o.val r.val
theorem Bbh (G:Γ.Ok Θ X E) (ha:Le Θ X E a r) (hb:Le Θ X E b s):WE X (.Subscript a b pos) (tF Θ E (subV Γ a b r s)):=by
 unfold subV;split
 .rename_i D hD;split
  .rename_i hn;unfold Ber at hD;split at hD
   .split at hD
    .rename_i hc;rw[and_eq_true] at hc;obtain⟨A,hT,hm⟩:=G.mdc _ D hD;exact Bg5 hT hm (by show X.env.scope.names.lookup _=_;rw[G.sc];exact of_decide_eq_true hc.2) (by simpa using hc.1) hb.val (Axy hn)
    .cases hD
   .cases hD
  .exact Cq
 split
 .rw[G.ns];exact Aun G.hK ha.val (hb.lo _ _ _ rfl) (hb.hi _ _ _ rfl)
 .exact Cq
 .rename_i n1 n2;rw[G.ns];refine Bgs G.hK G.hu ha.val hb.val (Axy ?_);cases b <;> first|rfl|skip
  rename_i lo hi st p;cases st
  .exact(n1 _ _ _ rfl).elim
  .exact(n2 _ _ _ _ rfl).elim
def Ap4:Option Rd->De->M (Option Int)
 |none=>Bs
 |some r=>Cg r.val
def Bbi (Γ:Gm) (o:Expr) (f:Str) (r:Rd):De->M W:=if Ahn o then Xb Γ.fld f r.val else Dv
theorem Bbj (G:Γ.Ok Θ X E) (ho:Le Θ X E o r):WE X (.Attribute o f pos) (tF Θ E (Bbi Γ o f r)):=by
 unfold Bbi;split
 .rename_i h;exact Beg G.hK G.fld ho.val (Xk h)
 .exact Cq
end
section
theorem Avp {n:Nat} (D:Og X.K X.mg x df ps fa fd) (F:Gw X.prog X.w X.K X.mg X.base CX n fa fd ps (spF Θ s) cm)
  (hr:Hc n X.A cm) (hx:Du CX X E) (hv:Ex _root_.D.Jv dv=some dvs) (hd:Vals dvs ds) (hb:Binds X.K fd ps ds) (ha:WA X (a::es) (tFs Θ E gs)) (hg:X.env.kindOf x=some .globalImplicit) (hdb:(x==("__debug__":Str))=false)
  (he:starEach (a::es) X.env=(false,eval a X.env)::starEach es X.env) (hpl:(backTo pos (starEach es X.env)).any (·.1)=false) :
  WE X (.Call (.Name x p) (a::es) [] pos) (tF Θ E (Ae (fun ws=>s (ws ++ dv)) gs)):=WE.weak ⟨Aeg F hr hg D.gl D.fn.kp hb hd hx ha.un hdb he hpl⟩ fun σ H Q ⟨ρ,S,δ,R,sl,q⟩=>by
 refine⟨ρ,S,δ,R,sl,(Aw.seq (Rel:=RVs Θ) q).mono ?_⟩;rintro vs H1 ⟨ρ1,S1,ws,p1,t1,R1,rvs,q1⟩;exact⟨ρ1,S1,ws ++ dv,R1,rvs.append (Kq hv),q1⟩
theorem Ae0 {n:Nat} (D:Og X.K X.mg x df ps fa fd) (F:Gw X.prog X.w X.K X.mg X.base CX n fa fd ps (spF Θ s) cm)
  (hr:Hc n X.A cm) (hx:Du CX X E) (hv:Ex _root_.D.Jv dv=some dvs) (hd:Vals dvs ds) (hb:Binds X.K fd ps ds) (hg:X.env.kindOf x=some .globalImplicit) (hdb:(x==("__debug__":Str))=false) :
  WE X (.Call (.Name x p) [] [] pos) (tF Θ E (Ae (fun ws=>s (ws ++ dv)) nilF)):=⟨fun aa s0 σ H Q I ⟨ρ,S,δ,R,sl,q⟩=>by
 refine wpAny_Call_Name_kw (Lh I hg D.gl ?_ hdb);refine callWith_K0 I.kIn D.fn.kp (Ug (us:=[]) (vs:=[]) F hr hb hd hx I .nil ?_);obtain⟨ρ1,S1,ws,p1,t1,R1,rvs,q3⟩:=Aw.seq (Rel:=RVs Θ) q ρ H [] (prefix_refl _) (Cy.refl _ _) R .nil;cases rvs;exact⟨ρ1,S1,dv,R1,Kq hv,q3⟩⟩
def Avq (Γ:Gm) (name:Str) (old:Option (De->M W)) (f:De->M W) (gs:De->M (List W)):De->M W:=match Γ.mn name,old with
 |true,some g=>orM g (Dk Γ.mt name f gs)
 |true,none=>Dk Γ.mt name f gs
 |false,some g=>g
 |false,none=>Dv
theorem Ajl (h1:∀g,old=some g->WE X e (tF Θ E g)) (h2:WE X e (tF Θ E (Dk Γ.mt name f0 gs))):WE X e (tF Θ E (Avq Γ name old f0 gs)):=by
 unfold Avq;split
 .exact Ba5 (h1 _ rfl) h2
 .exact h2
 .exact h1 _ rfl
 .exact Cq
def Ax0 (i:Fi) (c:Nat) (k:Nat) (gs:De->M (List W)):De->M W:=if k+1=i.np then Ae (fun ws=>Wi c i.g ws) gs else if k+1+i.dv.length=i.np then Ae (fun ws=>Wi c i.g (ws ++ i.dv)) gs else Dv
def Ajm (Γ:Gm) (f:Expr) (fr:Rd) (args:List Expr) (ars:List Rd) (kws:List Keyword) (cpos:Pos):De->M W:=
 match kws with
 |_::_=>Dv
 |[]=>if !args.all noStar then Dv else match f with
  |.Name x _=>if x==("__debug__":Str)||decide (x=("__name__":Str))||!decide (Γ.sc.names.lookup x=some .globalImplicit) then Dv else
   match Γ.fn x with
   |some i=>if args.length=i.np then Ae i.g (vals ars) else if args.length+i.dv.length=i.np then Ae (fun ws=>i.g (ws ++ i.dv)) (vals ars) else Dv
   |none=>match Γ.mkc x with
   |some (c,i)=>Ax0 i c args.length (vals ars)
   |none=>if Γ.bi x&&!args.isEmpty then if x="isinstance" then Ae (Dq Γ.isa) (vals ars) else match Aur Γ.ns x with
     |some g=>if Γ.calm then Ae g (vals ars) else Dv
     |none=>match Aus Γ.ns x with
      |some g=>if Γ.calm then Ae g (vals ars) else Dv
      |none=>Dv
    else Dv
  |.Attribute o name ak=>if Ahn o&&(ak.endLine==cpos.line) then
    match args with
    |[]=>Avq Γ name none fr.base nilF
    |_::_=>if decide (args.length < 30) then Avq Γ name ((Au9 name).map fun p=>Jc p.1 p.2 fr.base (vals ars)) fr.base (vals ars)
     else Dv
   else Dv
  |_=>Dv
theorem Ap5 (h:(a::es).all noStar=true) (hl:(a::es).length < 30):((backTo cpos (starEach (a::es) env)).all (fun x=>!x.1)&&(backToKw cpos (keywordEach [] env)).all (fun x=>x.1.isSome)&&decide ((a::es).length+([]:List Keyword).length+(if ([]:List Keyword).isEmpty then 0 else 1) < 30))=true:=by
 rw[Aew h,Bool.true_and,and_eq_true];exact⟨rfl,decide_eq_true (by show (a::es).length+0+0 < 30;omega)⟩
theorem Ap6 (G:Γ.Ok Θ X E) (hf:Le Θ X E f fr) (ha:Hi Θ X E es ars):WE X (.Call f es kws cpos) (tF Θ E (Ajm Γ f fr es ars kws cpos)):=by
 unfold Ajm;split
 .exact Cq
 split
 .exact Cq
 rename_i hs0;have hs:es.all noStar=true:=by
  cases h:es.all noStar
  .rw[h] at hs0;exact(hs0 rfl).elim
  .rfl
 have hv:=Ni ha hs;split
 .rename_i x np;split
  .exact Cq
  rename_i h0;rw[or_eq_true,or_eq_true,not_or,not_or] at h0;obtain⟨⟨h1,h2⟩,h3⟩:=h0;have h1:=eq_false_iff.mpr h1;have h2:=eq_false_iff.mpr h2;have hg:X.env.kindOf x=some .globalImplicit:=by
   show X.env.scope.names.lookup x=_;rw[G.sc];by_cases z:Γ.sc.names.lookup x=some .globalImplicit
   .exact z
   .rw[decide_eq_false z] at h3;exact(h3 rfl).elim
  split
  .rename_i i hfn;obtain⟨n,fa,fd,ps,df,cm,D,F,hr,dvs,ds,hd1,hd2,hd3⟩:=G.fn x i hfn;cases ha with
   |nil=>
    split
    .exact WE.weak (Ae0 D F hr G.ps (dv:=[]) rfl .nil D.bd hg h1) fun σ H Q q=>by
      have e:(fun ws=>i.g (ws ++ []))=i.g:=funext fun ws=>by rw[append_nil]
      rw[e];exact q
    .split
     .exact Ae0 D F hr G.ps hd1 hd2 hd3 hg h1
     .exact Cq
   |cons ha1 ha2=>
    rw[all_cons,and_eq_true] at hs;split
    .exact Bae D F hr G.ps hv hg h1 (Jy hs.1) (Gx hs.2)
    .split
     .exact Avp D F hr G.ps hd1 hd2 hd3 hv hg h1 (Jy hs.1) (Gx hs.2)
     .exact Cq
  .split
   .rename_i c i hmk;obtain⟨hm,hM⟩:=G.mkc x c i hmk;unfold Ax0;cases ha with
    |nil=>
     split
     .exact Ajf (more:=false) hM G.ps hm hg h1
     .split
      .exact Ajf (more:=true) hM G.ps hm hg h1
      .exact Cq
    |cons ha1 ha2=>
     rw[all_cons,and_eq_true] at hs;split
     .exact Apv (more:=false) hM G.ps hm hv hg h1 (Jy hs.1) (Gx hs.2)
     .split
      .exact Apv (more:=true) hM G.ps hm hv hg h1 (Jy hs.1) (Gx hs.2)
      .exact Cq
   split
   .rename_i hb;rw[and_eq_true] at hb;have hm:=G.bi x hb.1;cases ha with
    |nil=>cases hb.2
    |cons ha1 ha2=>
    rw[all_cons,and_eq_true] at hs;split
    .rename_i hx;subst hx;exact Bek G.hK G.isa hm hv hg (Jy hs.1) (Gx hs.2)
    split
    .rename_i g hbi;split
     .rename_i hc;rw[G.ns] at hbi;exact Bg0 G.hK (G.calm hc) hbi hm hv hg h2 h1 (Jy hs.1) (Gx hs.2)
     .exact Cq
    .split
     .rename_i g hty;split
      .rename_i hc;rw[G.ns] at hty;exact Bg1 G.hK (G.calm hc) hty hm hv hg h2 h1 (Jy hs.1) (Gx hs.2)
      .exact Cq
     .exact Cq
   .exact Cq
 .rename_i o name ak;split
  .rename_i h0;rw[and_eq_true] at h0;have hb:=hf.base _ _ _ rfl;split
   .exact Ajl (fun g hg=>nomatch hg) (Avl (fun c i z=>G.mt c _ i z) G.ps hb (Xk h0.1) h0.2)
   .rename_i a as;split
    .rename_i hl;have hs':=hs;rw[all_cons,and_eq_true] at hs';refine Ajl (fun g hg=>?_) (Ba6 (fun c i z=>G.mt c _ i z) G.ps hb hv (Xk h0.1) (Ap5 hs (of_decide_eq_true hl)) h0.2 (Jy hs'.1) (Gx hs'.2));obtain⟨⟨T,op⟩,hm,rfl⟩:=map_eq_some_iff.mp hg;exact Bg3 hm hb hv (Xk h0.1) (Ap5 hs (of_decide_eq_true hl)) h0.2 (Jy hs'.1) (Gx hs'.2)
    .exact Cq
  .exact Cq
 .exact Cq
def Xm (Γ:Gm) (f:Expr) (args:List Expr) (ars:List Rd) (kws:List Keyword) (d:De->M Src):De->M Src:=match f,kws with
 |.Name x _,[]=>if x="range"/\Γ.bi "range"=true/\Γ.sc.names.lookup ("range":Str)=some .globalImplicit/\args.all noStar=true then match args with
   |[_]=>Om Hw (vals ars)
   |_=>Dv
  else d
 |_,_=>d
def Yt (Γ:Gm) (f:Expr) (args:List Expr) (ars:List Rd) (kws:List Keyword) (d:De->M Src):De->M Src:=match f,args,ars,kws with
 |.Name x _,[a,b],_,[]=>if x="zip"/\Γ.bi "zip"=true/\Γ.sc.names.lookup ("zip":Str)=some .globalImplicit/\noStar a=true/\noStar b=true then Al3 (vals ars) else d
 |.Name x _,[a],[r],[⟨some k,.Constant (.int 1) _ _,_⟩]=>if x="enumerate"/\k="start"/\Γ.bi "enumerate"=true/\Γ.sc.names.lookup ("enumerate":Str)=some .globalImplicit/\noStar a=true then Aje r.val else d
 |_,_,_,_=>d
theorem Ae1 {kt:Nat} (G:Γ.Ok Θ X E) (ha:Hi Θ X E es ars) (hd:WI X (.Tuple elts kt tpos) (.Call f es kws cpos) (tFi Θ E d)):WI X (.Tuple elts kt tpos) (.Call f es kws cpos) (tFi Θ E (Yt Γ f es ars kws d)):=by
 unfold Yt;split
 .split
  .rename_i h;obtain⟨rfl,hb,hg,s1,s2⟩:=h;have hg:X.env.kindOf "zip"=some .globalImplicit:=by show X.env.scope.names.lookup _=_;rw[G.sc];exact hg
   exact Bem G.hK (G.bi _ hb) (Ni ha (by rw[all_cons,s1,all_cons,s2];rfl)) hg (Jy s1) (Gx (by rw[all_cons,s2];rfl))
  .exact hd
 .split
  .rename_i h;obtain⟨rfl,rfl,hb,hg,s1⟩:=h;have hg:X.env.kindOf "enumerate"=some .globalImplicit:=by show X.env.scope.names.lookup _=_;rw[G.sc];exact hg
   cases ha with|cons h1 _=>
   exact Ba2 (G.bi _ hb) h1.val hg (Jy s1)
  .exact hd
 .exact hd
theorem Yu (G:Γ.Ok Θ X E) (ha:Hi Θ X E es ars) (hd:WI X tg (.Call f es kws cpos) (tFi Θ E d)):WI X tg (.Call f es kws cpos) (tFi Θ E (Xm Γ f es ars kws d)):=by
 unfold Xm;split
 .rename_i x np;split
  .rename_i h;obtain⟨rfl,hb,hg,hs⟩:=h;have hm:=G.bi _ hb;have hg:X.env.kindOf "range"=some .globalImplicit:=by show X.env.scope.names.lookup _=_;rw[G.sc];exact hg
   have hv:=Ni ha hs;split
   .rw[all_cons,and_eq_true] at hs;exact Bao hm hv hg (Jy hs.1)
   .exact Ys
  .exact hd
 .exact hd
def Ax1 (Γ:Gm) (f:Expr) (fr:Rd) (args:List Expr) (ars:List Rd) (kws:List Keyword) (cpos:Pos):Rd:=
 let v:=Ajm Γ f fr args ars kws cpos
 ⟨v,Ay v,Dv,Dv,Dv,Xm Γ f args ars kws (Eh Γ.ns v),Yt Γ f args ars kws (Xm Γ f args ars kws (Eh Γ.ns v))⟩
theorem Avr (G:Γ.Ok Θ X E) (hf:Le Θ X E f fr) (ha:Hi Θ X E es ars):Le Θ X E (.Call f es kws cpos) (Ax1 Γ f fr es ars kws cpos):=by
 have h:=Ap6 (kws:=kws) (cpos:=cpos) G hf ha;have hsrc:∀tg,WI X tg (.Call f es kws cpos) (tFi Θ E (Eh Γ.ns (Ajm Γ f fr es ars kws cpos))):=fun tg=>by rw[G.ns];exact Aep G.hK h
 exact⟨h,Apk h (Aji rfl),fun _ _ _ _=>Cq,fun _ _ _ _=>O5,fun _ _ _ _=>O5,fun tg=>Yu G ha (hsrc tg),fun _ _ _=>Ae1 G ha (Yu G ha (hsrc _))⟩
def Sy (Γ:Gm) (x:Str):Option Nat:=if Ahc Γ.sc x&&(Γ.fnB||decide (Γ.sc.names.lookup x=some .local)) then Aho x Γ.N else none
theorem Xn {i:Nat} (G:Γ.Ok Θ X E) (h:Sy Γ x=some i):X.N[i]?=some x/\Ahc X.env.scope x=true/\(X.fn x||decide (X.env.scope.names.lookup x=some .local))=true:=by
 unfold Sy at h;split at h
 .rename_i hc;rw[and_eq_true,or_eq_true] at hc;refine⟨by rw[G.N];exact Xl h,by rw[G.sc];exact hc.1,?_⟩
  rw[or_eq_true];rcases hc.2 with z|z
  .exact .inl (G.fnB z x)
  .exact .inr (by rw[G.sc];exact z)
 .cases h
def slotsOf (Γ:Gm):List Expr->Option (List Nat)
 |[]=>some []
 |.Name x _::es=>match Sy Γ x,slotsOf Γ es with
  |some i,some is=>some (i::is)
  |_,_=>none
 |_::_=>none
theorem Ae2 (G:Γ.Ok Θ X E) {es:List Expr}:∀{is:List Nat},slotsOf Γ es=some is->PGs X es (Yn is)/\(assignEach es X.env).length=is.length/\(assignEach es X.env).findIdx? (·.1)=none:=by
 induction es with
 |nil=>intro is h;cases h;exact⟨Asv,rfl,rfl⟩
 |cons e es ih=>
  intro is h;unfold slotsOf at h;split at h
  .rename_i h0;cases h0
  .rename_i x np es' h0;cases h0;split at h
   .rename_i i is' h1 h2;cases h;obtain⟨q1,q2,q3⟩:=ih h2;obtain⟨s1,s2,s3⟩:=Xn G h1;refine⟨Anr (Aos (decide_eq_true G.nd) s1 s2 s3).un q1,?_,?_⟩
    .show (assignEach es X.env).length+1=is'.length+1;rw[q2]
    .show List.findIdx? (·.1) ((false,assign (.Name x np) X.env)::assignEach es X.env)=none;rw[List.findIdx?_cons];simp only[Bool.false_eq_true,if_false,q3,Option.map_none]
   .cases h
  .cases h
def tgt (Γ:Gm):Expr->Option Tg
 |.Name x _=>(Sy Γ x).map Cu
 |.Tuple es _ _=>if Γ.calm then (slotsOf Γ es).map W9 else none
 |_=>none
def tgG (K:PySem.W.Frag) (Γ:Gm):Expr->TG
 |.Name x _=>Mp ((Sy Γ x).getD 0)
 |.Tuple es _ _=>Ayo K ((slotsOf Γ es).getD []).length (Yn ((slotsOf Γ es).getD []))
 |_=>Mp 0
theorem Ahp (G:Γ.Ok Θ X E) (h:tgt Γ tg=some s):WG X tg (tgG Θ.K Γ tg)/\GOk Θ s (tgG Θ.K Γ tg):=by
 unfold tgt at h;split at h
 .obtain⟨i,h1,rfl⟩:=map_eq_some_iff.mp h;obtain⟨s1,s2,s3⟩:=Xn G h1;simp only[tgG,h1,getD_some];exact⟨Aos (decide_eq_true G.nd) s1 s2 s3,Aeo i⟩
 .split at h
  .rename_i hc;obtain⟨is,h1,rfl⟩:=map_eq_some_iff.mp h;obtain⟨q1,q2,q3⟩:=Ae2 G h1;simp only[tgG,h1,getD_some];rw[<-G.hK];exact⟨⟨Ayp (G.calm hc) q1 q2 q3⟩,Ajb is rfl⟩
  .cases h
 .cases h
def Ae3 (out sc:Scope):Scope:=
 { sc with names:=sc.names.map fun(n,k)=>if (k==.free&&out.kind==.function&&out.names.lookup n==some .cell) then (n,.cell) else (n,k) }
def ownOf:Expr->List Str
 |.Name x _=>[x]
 |.Tuple es _ _=>es.filterMap fun e=>match e with
  |.Name x _=>some x
  |_=>none
 |_=>[]
def Aba (N:List Str) (sc:Scope):List Nat:=sc.names.filterMap fun(n,k)=>if k==.free then Aho n N else none
def Gm.inner (Γ:Gm) (tg:Expr) (sc:Scope):Gm:={ Γ with N:=ownOf tg ++ (Aba Γ.N sc).map (fun j=>Γ.N.getD j ""),sc:=Ae3 Γ.sc sc,fnB:=false,rs:=false,loops:=false,tr:=false }
theorem Gm.Ok.inner {Γ:Gm} {scope:Scope} (G:Γ.Ok Θ X E) (nd:(Γ.inner tg scope).N.Nodup) (C:Addr) (s:Shared) (H:Hp) (ex:List Addr):(Γ.inner tg scope).Ok Θ (X.comp scope (ownOf tg) (Aba Γ.N scope) C s H ex) E0s where
 hK:=G.hK
 ns:=G.ns
 hu:=G.hu
 N:=by
  show ownOf tg ++ (Aba Γ.N scope).map (fun j=>X.N.getD j "")=_;rw[G.N];rfl
 nd:=by
  show (ownOf tg ++ (Aba Γ.N scope).map (fun j=>X.N.getD j "")).Nodup;rw[G.N];exact nd
 sc:=by
  show relabel scope X.env=Ae3 Γ.sc scope;rw[<-G.sc];rfl
 fn:=fun x g h=>G.fn x g h
 ps:=Ai7
 con:=G.con
 bi:=G.bi
 fld:=G.fld
 isa:=G.isa
 calm:=G.calm
 fnB:=fun z=>by cases z
 mdc:=G.mdc
 mt:=fun c m i h=>⟨(G.mt c m i h).ex⟩
 mkc:=fun x c i h=>⟨(G.mkc x c i h).1,⟨(G.mkc x c i h).2.ex⟩⟩
def Ax2:List Rd->De->M Bool
 |[]=>fun _=>pure true
 |[r]=>r.tst
 |_=>Dv
theorem Ae4:∀{es:List Expr} {rs:List Rd},Hi Θ X E es rs->WTs X es (tFb Θ E (Ax2 rs))
 |_,_,.nil=>⟨fun aa s σ H Q I ⟨ρ,S,δ,R,sl,q⟩=>At4.un aa s σ H Q I (Aw.now (Rel:=fun _ _ a b=>a=b) q R rfl)⟩
 |_,_,.cons h .nil=>At5 h.tst
 |_,_,.cons _ (.cons _ _)=>⟨fun _ _ _ _ _ _ ⟨_,_,_,_,_,q⟩=>False.elim q⟩
def Ap7 (Γ:Gm) (tg iter:Expr) (isa:Int) (sc:Scope):Bool:=
 decide (isa=0)&&Γ.calm&&Aa9 iter&&decide (Γ.inner tg sc).N.Nodup&&decide (sc.kind=.function)&&sc.names.all (fun y=>decide (y.2≠.cell))&&
 (Aba Γ.N sc).all (fun j=>match Γ.N[j]? with|some x=>decide (sc.names.lookup x=some .free)|none=>false)&&
 sc.names.all (fun y=>!decide (y.2=.local)||decide (sc.names.lookup y.1=some .local))&&
 sc.names.all (fun y=>!decide (y.2=.free)||(decide (Γ.sc.names.lookup y.1=some .cell)||decide (Γ.sc.names.lookup y.1=some .free)))
def Acz (tg:Expr) (r:Rd):De->M Src:=match tg with
 |.Tuple _ _ _=>r.srcT
 |_=>r.src
theorem Vi (h:Le Θ X E e r):WI X tg e (tFi Θ E (Acz tg r)):=by
 unfold Acz;split
 .exact h.srcT _ _ _
 .exact h.src _
def Ae5 (Γ:Gm) (tg iter:Expr) (isa:Int) (sc:Scope) (ri re:Rd) (rt:List Rd):De->M W:=
 if Ap7 Γ tg iter isa sc then match tgt (Γ.inner tg sc) tg with
  |some s=>Df (ownOf tg).length (Aba Γ.N sc) (Acz tg ri) s (Ax2 rt) re.val
  |none=>Dv
 else Dv
theorem Ajn {K:PySem.W.Frag} {Γ:Gm} {s:Tg} (h:tgt Γ tg=some s):GOk Θ s (tgG K Γ tg):=by
 unfold tgt at h;split at h
 .obtain⟨i,h1,rfl⟩:=map_eq_some_iff.mp h;simp only[tgG,h1,getD_some];exact Aeo i
 .split at h
  .obtain⟨is,h1,rfl⟩:=map_eq_some_iff.mp h;simp only[tgG,h1,getD_some];exact Ajb is rfl
  .cases h
 .cases h
theorem Ap8 {Γ:Gm} {iter elt:Expr} {ifs:List Expr} {isa:Int} {scope:Scope} {ri re:Rd} {rt:List Rd} (G:Γ.Ok Θ X E) (hi:Le Θ X E iter ri)
  (he:∀X' E',(Γ.inner tg scope).Ok Θ X' E'->Le Θ X' E' elt re) (ht:∀X' E',(Γ.inner tg scope).Ok Θ X' E'->Hi Θ X' E' ifs rt) :
  WE X (.ListComp elt [⟨tg,iter,ifs,isa⟩] scope pos) (tF Θ E (Ae5 Γ tg iter isa scope ri re rt)):=by
 unfold Ae5;split
 .rename_i hb;unfold Ap7 at hb;simp only[and_eq_true] at hb;obtain⟨⟨⟨⟨⟨⟨⟨⟨b1,b2⟩,b3⟩,b4⟩,b5⟩,b6⟩,b7⟩,b8⟩,b9⟩:=hb;obtain rfl:=of_decide_eq_true b1;have nd:=of_decide_eq_true b4;split
  .rename_i s hs;refine Bav (G.calm b2) G.sc (Vi hi) (fun C s' H ex=>(Ahp (G.inner nd C s' H ex) hs).1) (Ajn hs) (fun C s H ex=>Ae4 (ht _ _ (G.inner nd C s H ex))) (fun C s H ex=>(he _ _ (G.inner nd C s H ex)).val) (by rw[G.N];exact b7) (of_decide_eq_true b5) b6 b8 b9 (Acy b3)
  .exact Cq
 .exact Cq
end
def atR (Γ:Gm) (o:Expr) (f:Str) (r:Rd):Rd:={ Rd.of Γ.ns (Bbi Γ o f r) with base:=r.val }
def Bbk (lo hi:Option Rd) (st:Option Expr):Rd:=match st with
 |none=>{ Rd.no with lo:=Ap4 lo,hi:=Ap4 hi }
 |some _=>Rd.no
mutual
def ev:Expr->Gm->Rd
 |.Constant c _ _,Γ=>Rd.of Γ.ns (Apy c)
 |.Name x _,Γ=>Rd.of Γ.ns (Ap0 Γ x)
 |.BinOp a op b _,Γ=>Rd.of Γ.ns (Ba7 op (ev a Γ) (ev b Γ))
 |.UnaryOp op a _,Γ=>unR Γ.ns op (ev a Γ)
 |.BoolOp op vs _,Γ=>Axz Γ.ns op (evs vs Γ)
 |.Compare a ops bs _,Γ=>Bbb Γ.ns ops bs (ev a Γ) (evs bs Γ)
 |.IfExp _ _ _ _,_=>Rd.no
 |.Tuple es _ _,Γ=>Rd.of Γ.ns (Bbd es (evs es Γ))
 |.List es _,Γ=>Rd.of Γ.ns (Bbe es (evs es Γ))
 |.Dict ks vs _,Γ=>Rd.of Γ.ns (Ap3 (Bbl ks Γ) (evs vs Γ))
 |.Call f args kws pos,Γ=>Ax1 Γ f (ev f Γ) args (evs args Γ) kws pos
 |.Attribute o f _,Γ=>atR Γ o f (ev o Γ)
 |.Subscript o i _,Γ=>Rd.of Γ.ns (subV Γ o i (ev o Γ) (ev i Γ))
 |.Slice lo hi st _,Γ=>Bbk (evo lo Γ) (evo hi Γ) st
 |.ListComp elt [⟨tg,iter,ifs,isa⟩] sc _,Γ=>Rd.of Γ.ns (Ae5 Γ tg iter isa sc (ev iter Γ) (ev elt (Γ.inner tg sc)) (evs ifs (Γ.inner tg sc)))
 |_,_=>Rd.no
def evs:List Expr->Gm->List Rd
 |[],_=>[]
 |e::es,Γ=>ev e Γ::evs es Γ
def evo:Option Expr->Gm->Option Rd
 |none,_=>none
 |some e,Γ=>some (ev e Γ)
def Bbl:List (Option Expr)->Gm->List (Option Rd)
 |[],_=>[]
 |e::es,Γ=>evo e Γ::Bbl es Γ
end
section
mutual
theorem Gk:∀(e:Expr) (Γ:Gm) (X:Cx) (E:L2.St->XK),Γ.Ok Θ X E->Le Θ X E e (ev e Γ)
 |.Constant c _ _,Γ,X,E,G=>Ms G.hK G.ns Apz rfl
 |.Name x _,Γ,X,E,G=>Ms G.hK G.ns (Avm G) rfl
 |.BinOp a op b _,Γ,X,E,G=>Ms G.hK G.ns (Ba8 G (Gk a Γ X E G) (Gk b Γ X E G)) rfl
 |.UnaryOp op a _,Γ,X,E,G=>Beq G (Gk a Γ X E G)
 |.BoolOp op vs _,Γ,X,E,G=>Avn G (Ma vs Γ X E G)
 |.Compare a ops bs _,Γ,X,E,G=>Bbc G (Gk a Γ X E G) (Ma bs Γ X E G)
 |.IfExp _ _ _ _,_,_,_,_=>Hj
 |.Tuple es _ _,Γ,X,E,G=>Ms G.hK G.ns (Bbf (Ma es Γ X E G)) rfl
 |.List es _,Γ,X,E,G=>Ms G.hK G.ns (Bbg (Ma es Γ X E G)) rfl
 |.Dict ks vs _,Γ,X,E,G=>Ms G.hK G.ns (Avo (Ac0 ks Γ X E G) (Ma vs Γ X E G)) rfl
 |.Call f args kws pos,Γ,X,E,G=>Avr G (Gk f Γ X E G) (Ma args Γ X E G)
 |.Attribute o f _,Γ,X,E,G=>
  have h:=Gk o Γ X E G;have r:=Ms G.hK G.ns (Bbj (f:=f) G h) rfl
  ⟨r.val,r.tst,fun _ _ _ e=>by cases e;exact h.val,r.lo,r.hi,r.src,r.srcT⟩
 |.Subscript o i _,Γ,X,E,G=>Ms G.hK G.ns (Bbh G (Gk o Γ X E G) (Gk i Γ X E G)) rfl
 |.Slice lo hi none _,Γ,X,E,G=>⟨Cq,Apw,fun _ _ _ _=>Cq,fun _ _ _ e=>by cases e;exact Ap9 lo Γ X E G,fun _ _ _ e=>by cases e;exact Ap9 hi Γ X E G,fun _=>Ys,fun _ _ _=>Ys⟩
 |.Slice _ _ (some _) _,_,_,_,_=>Hj
 |.ListComp elt [⟨tg,iter,ifs,isa⟩] sc _,Γ,X,E,G=>Ms G.hK G.ns (Ap8 G (Gk iter Γ X E G) (fun X' E' G'=>Gk elt _ X' E' G') (fun X' E' G'=>Ma ifs _ X' E' G')) rfl
 |.ListComp _ [] _ _,_,_,_,_=>Hj
 |.ListComp _ (⟨_,_,_,_⟩::_::_) _ _,_,_,_,_=>Hj
 |.NamedExpr _ _ _,_,_,_,_=>Hj
 |.Lambda _ _ _ _,_,_,_,_=>Hj
 |.Set _ _ _,_,_,_,_=>Hj
 |.SetComp _ _ _ _,_,_,_,_=>Hj
 |.DictComp _ _ _ _ _,_,_,_,_=>Hj
 |.GeneratorExp _ _ _ _,_,_,_,_=>Hj
 |.Await _ _,_,_,_,_=>Hj
 |.Yield _ _,_,_,_,_=>Hj
 |.YieldFrom _ _,_,_,_,_=>Hj
 |.FormattedValue _ _ _ _,_,_,_,_=>Hj
 |.JoinedStr _ _,_,_,_,_=>Hj
 |.Starred _ _,_,_,_,_=>Hj
theorem Ma:∀(es:List Expr) (Γ:Gm) (X:Cx) (E:L2.St->XK),Γ.Ok Θ X E->Hi Θ X E es (evs es Γ)
 |[],_,_,_,_=>.nil
 |e::es,Γ,X,E,G=>.cons (Gk e Γ X E G) (Ma es Γ X E G)
theorem Ap9:∀(e:Option Expr) (Γ:Gm) (X:Cx) (E:L2.St->XK),Γ.Ok Θ X E->WO X e (tFo Θ E (Ap4 (evo e Γ)))
 |none,_,_,_,_=>Ao7
 |some e,Γ,X,E,G=>Baj (Gk e Γ X E G).val
theorem Ac0:∀(es:List (Option Expr)) (Γ:Gm) (X:Cx) (E:L2.St->XK),Γ.Ok Θ X E->O6 Θ X E es (Bbl es Γ)
 |[],_,_,_,_=>.nil
 |none::es,Γ,X,E,G=>.none (Ac0 es Γ X E G)
 |some e::es,Γ,X,E,G=>.some (Gk e Γ X E G) (Ac0 es Γ X E G)
end
end
structure Gm.SOk (Θ:Th) (Γ:Gm) (X:Cx) (E:L2.St->XK):Prop where
 g:Γ.Ok Θ X E
 hp:Γ.loops=true->PassesOwn (model X.prog X.w) X.A X.env X.xe
 hf:∀x,X.fn x=true
 rs:Γ.rs=true->∃E1,E=(fun _=>E1)/\Raises X E1/\Xh X E1/\X.ex=[]
 exi:Γ.rs=true->∀x c dv,Γ.exi x=some (c,dv)->∃f,Θ.xf c=some f/\Bel X (Θ.cl c) f dv.length/\X.mg x=some (.ref (Θ.cl c))
 hcl:∀x k,Γ.hcl x=some k->X.mg x=some (.ref (Θ.cl k))
 exm:∀k c,Γ.exm k c=true->exmOne Θ.K (.ref (Θ.cl c)) (.ref (Θ.cl k))=some true
 tr:Γ.tr=true->X.stack=X.env::X.outer/\X.env.frame=some X.env.locals
 exc:∀x c,Γ.exc x=some c->Θ.xf c=none/\Aad X.K (Θ.cl c)/\X.mg x=some (.ref (Θ.cl c))
def O7:MS:=fun _ _=>.bad
def Bes:MS:=fun _ S=>.rt .non S
def Bet:MS:=fun δ S=>.bk δ S
def Ax3:MS:=fun δ S=>.ct δ S
section
theorem Ci {Θ:Th} {X:Cx} {E:L2.St->XK} {st:Stmt}:WS X st (tS Θ E O7):=⟨fun _ _ _ _ _ _ ⟨_,_,_,_,_,q⟩=>False.elim q⟩
theorem Avs:WS X (.Pass pos) (tS Θ E Am):=WS.weak ⟨Ass⟩ fun D σ H ⟨ρ,S,δ,R,sl,q⟩=>q.nxt R sl
theorem Aqa:WS X (.Break pos) (tS Θ E Bet):=WS.weak ⟨Anq⟩ fun D σ H ⟨ρ,S,δ,R,sl,q⟩=>q ρ H σ (prefix_refl ρ) (Cy.refl ρ H) R sl
theorem Ae6:WS X (.Continue pos) (tS Θ E Ax3):=WS.weak ⟨Aea⟩ fun D σ H ⟨ρ,S,δ,R,sl,q⟩=>q ρ H σ (prefix_refl ρ) (Cy.refl ρ H) R sl
theorem Avt:WS X (.Return none pos) (tS Θ E Bes):=WS.weak ⟨Ast⟩ fun D σ H ⟨ρ,S,δ,R,sl,q⟩=>q.ret R .non
theorem Aqb {n:Nat}:swapsWith v (some (.Subscript o i p)) n env=pure false:=by cases v <;> rfl
theorem Aqc {n:Nat}:swapsWith v (some (.Attribute o f p)) n env=pure false:=by cases v <;> rfl
def Aqd (Γ:Gm) (sc:Scope) (vp:Pos) (x:Str) (p:Pos):Bool:=((if Γ.sc.kind.isAnnotationScope then .function else Γ.sc.kind)==.function)&&(Γ.sc.names.lookup x==some .local)&&p.line==vp.line&&!(sc.names.any fun(n,k)=>n==x&&(k==.local||k==.cell))
theorem Aqe {n:Nat} (G:Γ.Ok Θ X E):swapsWith (.ListComp elt gs sc vp) (some (.Name x p)) n X.env=pure (Aqd Γ sc vp x p):=by
 show pure _=_;unfold Aqd Env.blockKind Env.kindOf;rw[G.sc];rfl
def Ac1:Expr->Bool
 |.ListComp _ [_] _ _=>true
 |_=>false
theorem Ae7 (h:Ac1 v=true):∃elt tg iter ifs isa sc vp,v=.ListComp elt [⟨tg,iter,ifs,isa⟩] sc vp:=by
 unfold Ac1 at h;split at h
 .rename_i elt c sc vp;obtain⟨tg,iter,ifs,isa⟩:=c;exact⟨elt,tg,iter,ifs,isa,sc,vp,rfl⟩
 .cases h
def Bbm (Γ:Gm) (ts:List Expr) (v:Expr) (rv:Rd):MS:=match ts with
 |[.Name x _]=>if Acx v||Ac1 v then match Sy Γ x with
   |some i=>Bo i rv.val
   |none=>O7
  else O7
 |[.Subscript o i _]=>Yp (ev o Γ).val (ev i Γ).val rv.val
 |[.Attribute o f _]=>Yo Γ.fld f (ev o Γ).val rv.val
 |_=>O7
theorem Ae8 {Θ:Th} {X:Cx} {E:L2.St->XK} {st:Stmt} {i:Nat}:WS X st (tS Θ E (Bo i Dv)):=⟨fun _ _ _ _ _ _ ⟨_,_,_,_,_,q⟩=>False.elim q⟩
theorem Avu {i:Nat} {isa:Int} (G:Γ.SOk Θ X E) (hi:Sy Γ x=some i) (hsw:swapsWith (.ListComp elt [⟨tg,iter,ifs,isa⟩] scope vp) (some (.Name x np)) pos.line X.env=pure true) :
  WS X (.Assign [.Name x np] (.ListComp elt [⟨tg,iter,ifs,isa⟩] scope vp) pos) (tS Θ E (Bo i (Ae5 Γ tg iter isa scope (ev iter Γ) (ev elt (Γ.inner tg scope)) (evs ifs (Γ.inner tg scope))))):=by
 obtain⟨s1,s2,s3⟩:=Xn G.g hi;unfold Ae5;split
 .rename_i hb;unfold Ap7 at hb;simp only[and_eq_true] at hb;obtain⟨⟨⟨⟨⟨⟨⟨⟨b1,b2⟩,b3⟩,b4⟩,b5⟩,b6⟩,b7⟩,b8⟩,b9⟩:=hb;obtain rfl:=of_decide_eq_true b1;have nd:=of_decide_eq_true b4;split
  .rename_i s hs;exact Avj (G.g.calm b2) G.g.sc (Vi (Gk iter Γ X E G.g)) (fun C s' H ex=>(Ahp (G.g.inner nd C s' H ex) hs).1) (Ajn hs) (fun C s H ex=>Ae4 (Ma ifs _ _ _ (G.g.inner nd C s H ex))) (fun C s H ex=>(Gk elt _ _ _ (G.g.inner nd C s H ex)).val) (by rw[G.g.N];exact b7) (of_decide_eq_true b5) b6 b8 b9 (Acy b3)
    (Aos (decide_eq_true G.g.nd) s1 s2 s3) hsw
  .exact Ae8
 .exact Ae8
theorem Avv (G:Γ.SOk Θ X E):WS X (.Assign ts v pos) (tS Θ E (Bbm Γ ts v (ev v Γ))):=by
 have hv:=Gk v Γ X E G.g;unfold Bbm;split
 .rename_i x np;split
  .rename_i hn;split
   .rename_i i hi;obtain⟨s1,s2,s3⟩:=Xn G.g hi;by_cases h1:Acx v=true
    .exact Apd hv.val (decide_eq_true G.g.nd) s1 s2 (Ajh h1) (G.hf _)
    .rw[or_eq_true] at hn;obtain⟨elt,tg,iter,ifs,isa,sc,vp,rfl⟩:=Ae7 (hn.resolve_left h1);have sw:=Aqe (elt:=elt) (gs:=[⟨tg,iter,ifs,isa⟩]) (sc:=sc) (vp:=vp) (p:=np) (x:=x) (n:=pos.line) G.g;cases hB:Aqd Γ sc vp x np with
     |false=>rw[hB] at sw;exact Apd hv.val (decide_eq_true G.g.nd) s1 s2 sw (G.hf _)
     |true=>rw[hB] at sw;exact Avu G hi sw
   .exact Ci
  .exact Ci
 .exact Avb G.g.hu (Gk _ Γ X E G.g).val (Gk _ Γ X E G.g).val hv.val Aqb
 .exact Bar G.g.hK G.g.fld (Gk _ Γ X E G.g).val hv.val Aqc
 .exact Ci
def Bbn (Γ:Gm) (tg iter:Expr) (b:MS):MS:=if Γ.calm&&Aa9 iter&&Γ.loops then match tgt Γ tg with
  |some s=>Vh (Acz tg (ev iter Γ)) s b
  |none=>O7
 else O7
theorem Avw (G:Γ.SOk Θ X E) (hb:WSs X body (tS Θ E b)):WS X (.For tg iter body [] pos) (tS Θ E (Bbn Γ tg iter b)):=by
 unfold Bbn;split
 .rename_i hc;rw[and_eq_true,and_eq_true] at hc;split
  .rename_i s hs;obtain⟨w,gk⟩:=Ahp G.g hs;exact Ban (G.hp hc.2) G.g.hK (G.g.calm hc.1.1) (Vi (Gk _ Γ X E G.g)) w gk hb (Acy hc.1.2)
  .exact Ci
 .exact Ci
def Ahq (Γ:Gm) (x:Str) (args:List Expr):MS:=if Γ.rs&&Γ.calm&&!(x==("__debug__":Str))&&decide (Γ.sc.names.lookup x=some .globalImplicit)&&args.all noStar then match Γ.exc x with
  |some c=>O4 c (vals (evs args Γ))
  |none=>match Γ.exi x with
   |some (c,dv)=>J9 c dv (vals (evs args Γ))
   |none=>O7
 else O7
theorem Al5 (G:Γ.SOk Θ X E):WS X (.Raise (some (.Call (.Name x np) (a::es) [] cpos)) none pos) (tS Θ E (Ahq Γ x (a::es))):=by
 unfold Ahq;split
 .rename_i hc;simp only[and_eq_true] at hc;obtain⟨⟨⟨⟨c1,c2⟩,c3⟩,c4⟩,c5⟩:=hc;obtain⟨E1,rfl,hR,hRI,hex⟩:=G.rs c1;have hv:=Ni (Ma (a::es) Γ X _ G.g) c5;rw[all_cons,and_eq_true] at c5;have hg:X.env.kindOf x=some .globalImplicit:=by show X.env.scope.names.lookup x=_;rw[G.g.sc];exact of_decide_eq_true c4
  split
  .rename_i c hx;obtain⟨x1,x2,x3⟩:=G.exc x c hx;exact Apl x1 x2 x3 (G.g.calm c2) hR hv hg (by simpa using c3) (Jy c5.1) (Gx c5.2)
  .split
   .rename_i c dv hx;obtain⟨f,x1,x2,x3⟩:=G.exi c1 x c dv hx;exact Alz x1 hex x2 x3 (G.g.calm c2) hRI hv hg (by simpa using c3) (Jy c5.1) (Gx c5.2)
   .exact Ci
 .exact Ci
end
def Ahr (Γ:Gm) (exc cause:Option Expr):MS:=match exc,cause with
 |some (.Call (.Name x _) (a::es) [] _),none=>Ahq Γ x (a::es)
 |_,_=>O7
theorem Al6 (G:Γ.SOk Θ X E):WS X (.Raise exc cause pos) (tS Θ E (Ahr Γ exc cause)):=by
 unfold Ahr;split
 .exact Al5 G
 .exact Ci
def Bg6 (Γ:Gm):Option Expr->MS
 |some e=>retS (ev e Γ).val
 |none=>Bes
def Aqf (m:MS):List Stmt->MS
 |[]=>m
 |_::_=>O7
def Ahs (Γ:Gm) (c:De->M Bool) (b:MS):MS:=if Γ.loops then Hs c b Γ.fuel else O7
def Gm.inTry (Γ:Gm):Gm:={ Γ with rs:=false,loops:=false,tr:=false }
def Gm.inSuite (Γ:Gm):Gm:={ Γ with rs:=false,loops:=false,tr:=false,calm:=false,fn:=fun _=>none,mt:=fun _ _=>none,mkc:=fun _=>none }
theorem Gm.SOk.inTry {Θ:Th} {X:Cx} {E E':L2.St->XK} {Γ:Gm} {pn:List (Addr×Obj)} {xe:Value->Shared->Prop} (G:Γ.SOk Θ X E) (hp:Du (CXo X.prog X.w) (X.tryB pn xe) E'):Γ.inTry.SOk Θ (X.tryB pn xe) E' where
 g:={ hK:=G.g.hK,ns:=G.g.ns,hu:=G.g.hu,N:=G.g.N,nd:=G.g.nd,sc:=G.g.sc,fn:=G.g.fn,ps:=hp,con:=G.g.con,bi:=G.g.bi,fld:=G.g.fld,isa:=G.g.isa,calm:=G.g.calm,fnB:=G.g.fnB,mdc:=G.g.mdc,mt:=fun c m i h=>⟨(G.g.mt c m i h).ex⟩,mkc:=fun x c i h=>⟨(G.g.mkc x c i h).1,⟨(G.g.mkc x c i h).2.ex⟩⟩ }
 hp:=fun z=>by cases z
 hf:=G.hf
 rs:=fun z=>by cases z
 exi:=fun z=>by cases z
 hcl:=G.hcl
 exm:=G.exm
 tr:=fun z=>by cases z
 exc:=G.exc
theorem Gm.SOk.inSuite {Θ:Th} {X:Cx} {E:L2.St->XK} {Γ:Gm} (G:Γ.SOk Θ X E) (e:Addr):Γ.inSuite.SOk Θ (X.suite e) E0s where
 g:={ hK:=G.g.hK,ns:=G.g.ns,hu:=G.g.hu,N:=G.g.N,nd:=G.g.nd,sc:=G.g.sc,fn:=fun _ _ z=>(nomatch z),ps:=Ai7,con:=G.g.con,bi:=G.g.bi,fld:=G.g.fld,isa:=G.g.isa,calm:=fun z=>(nomatch z),fnB:=G.g.fnB,mdc:=G.g.mdc,mt:=fun _ _ _ z=>(nomatch z),mkc:=fun _ _ _ z=>(nomatch z) }
 hp:=fun z=>by cases z
 hf:=G.hf
 rs:=fun z=>by cases z
 exi:=fun z=>by cases z
 hcl:=G.hcl
 exm:=G.exm
 tr:=fun z=>by cases z
 exc:=G.exc
def Bbo (Γ:Gm) (t:Expr) (n:Str) (b su:MS) (ss:List Stmt):MS:=match t with
 |.Name x _=>if Γ.tr&&!(x==("__debug__":Str))&&decide (Γ.sc.names.lookup x=some .globalImplicit)&&decide (Γ.sc.names.lookup n=some .local)&&!ss.isEmpty then
  match Γ.hcl x,Aho n Γ.N with
  |some k,some i=>Al0 (Γ.exm k) i b su
  |_,_=>O7
  else O7
 |_=>O7
theorem Avx (G:Γ.SOk Θ X E)
  (hb:∀(pn:List (Addr×Obj)) (xe:Value->Shared->Prop) (E':L2.St->XK),Du (CXo X.prog X.w) (X.tryB pn xe) E'->WSs (X.tryB pn xe) body (tS Θ E' b)) (hs:∀e,WSs (X.suite e) ss (tS Θ E0s su)) :
  WS X (.Try body [.ExceptHandler (some t) (some n) ss hpos] [] [] pos) (tS Θ E (Bbo Γ t n b su ss)):=by
 unfold Bbo;split
 .split
  rotate_left
  .exact Ci
  rename_i x np hc;simp only[and_eq_true] at hc;obtain⟨⟨⟨⟨c1,c2⟩,c3⟩,c4⟩,c5⟩:=hc;obtain⟨t1,t2⟩:=G.tr c1;split
  .rename_i k i hk hi;cases ss with
   |nil=>cases c5
   |cons b0 ss=>exact Ba1 G.g.hK t1 t2 G.g.nd (G.hcl _ k hk) (fun c z=>G.exm k c z) hb hs (by rw[G.g.N];exact Xl hi) (by rw[G.g.sc];exact of_decide_eq_true c4) (by show X.env.scope.names.lookup _=_;rw[G.g.sc];exact of_decide_eq_true c3) (by simpa using c2)
  .exact Ci
 .exact Ci
def Aqg (Γ:Gm) (e:Expr):MS:=if Acx e then Rz (ev e Γ).val else O7
mutual
def evS:Stmt->Gm->MS
 |.Return e _,Γ=>Bg6 Γ e
 |.Assign ts v _,Γ=>Bbm Γ ts v (ev v Γ)
 |.If c A B _,Γ=>ifS (ev c Γ).tst (Cv A Γ) (Cv B Γ)
 |.While c b els _,Γ=>Aqf (Ahs Γ (ev c Γ).tst (Cv b Γ)) els
 |.AugAssign _ _ _ _,_=>O7
 |.Try body [.ExceptHandler (some t) (some n) ss _] [] [] _,Γ=>Bbo Γ t n (Cv body Γ.inTry) (Cv ss Γ.inSuite) ss
 |.Try body [.ExceptHandler (some _) none _ _] [] [] _,Γ=>Al1 (Cv body Γ.inTry)
 |.For tg it b els _,Γ=>Aqf (Bbn Γ tg it (Cv b Γ)) els
 |.Expr e _,Γ=>Aqg Γ e
 |.Raise exc cause _,Γ=>Ahr Γ exc cause
 |.Pass _,_=>Am
 |.Break _,_=>Bet
 |.Continue _,_=>Ax3
 |_,_=>O7
def Cv:List Stmt->Gm->MS
 |[],_=>Am
 |s::ss,Γ=>Aj (evS s Γ) (Cv ss Γ)
end
section
mutual
theorem Bbp:∀(st:Stmt) (Γ:Gm) (X:Cx) (E:L2.St->XK),Γ.SOk Θ X E->WS X st (tS Θ E (evS st Γ))
 |.Return (some e) _,Γ,X,E,G=>Bam (Gk e Γ X E G.g).val
 |.Return none _,_,_,_,_=>Avt
 |.Assign ts v _,Γ,X,E,G=>Avv G
 |.If c A B _,Γ,X,E,G=>Bef (Gk c Γ X E G.g).tst (Ka A Γ X E G) (Ka B Γ X E G)
 |.While c b [] _,Γ,X,E,G=>by
  show WS X _ (tS Θ E (Ahs Γ (ev c Γ).tst (Cv b Γ)));unfold Ahs;split
  .rename_i h;exact Ape _ (G.hp h) (Gk c Γ X E G.g).tst (Ka b Γ X E G)
  .exact Ci
 |.While _ _ (_::_) _,_,_,_,_=>Ci
 |.For tg it b [] _,Γ,X,E,G=>Avw G (Ka b Γ X E G)
 |.For _ _ _ (_::_) _,_,_,_,_=>Ci
 |.Expr e _,Γ,X,E,G=>by
  show WS X _ (tS Θ E (Aqg Γ e));unfold Aqg;split
  .rename_i h;exact Auw (Gk e Γ X E G.g).val (Ajh h)
  .exact Ci
 |.Raise exc cause _,Γ,X,E,G=>Al6 G
 |.Pass _,_,_,_,_=>Avs
 |.Break _,_,_,_,_=>Aqa
 |.Continue _,_,_,_,_=>Ae6
 |.FunctionDef _ _ _ _ _ _ _ _ _ _,_,_,_,_=>Ci
 |.AsyncFunctionDef _ _ _ _ _ _ _ _ _ _,_,_,_,_=>Ci
 |.ClassDef _ _ _ _ _ _ _ _ _ _ _,_,_,_,_=>Ci
 |.Delete _ _,_,_,_,_=>Ci
 |.TypeAlias _ _ _ _ _ _ _,_,_,_,_=>Ci
 |.AugAssign _ _ _ _,_,_,_,_=>Ci
 |.AnnAssign _ _ _ _ _,_,_,_,_=>Ci
 |.AsyncFor _ _ _ _ _,_,_,_,_=>Ci
 |.With _ _ _,_,_,_,_=>Ci
 |.AsyncWith _ _ _,_,_,_,_=>Ci
 |.Match _ _ _,_,_,_,_=>Ci
 |.Try body [.ExceptHandler (some t) (some n) ss _] [] [] _,Γ,X,E,G=>Avx G (fun pn xe E' hp=>Ka body _ _ _ (G.inTry hp)) fun e=>Ka ss _ _ _ (G.inSuite e)
 |.Try _ [] _ _ _,_,_,_,_=>Ci
 |.Try _ (.ExceptHandler none _ _ _::_::_) _ _ _,_,_,_,_=>Ci
 |.Try _ (.ExceptHandler (some _) none _ _::_::_) _ _ _,_,_,_,_=>Ci
 |.Try _ (.ExceptHandler (some _) (some _) _ _::_::_) _ _ _,_,_,_,_=>Ci
 |.Try _ [.ExceptHandler none _ _ _] _ _ _,_,_,_,_=>Ci
 |.Try body [.ExceptHandler (some _) none _ _] [] [] _,Γ,X,E,G=>Avg fun pn xe E' hp=>Ka body _ _ _ (G.inTry hp)
 |.Try _ [.ExceptHandler (some _) none _ _] (_::_) _ _,_,_,_,_=>Ci
 |.Try _ [.ExceptHandler (some _) none _ _] [] (_::_) _,_,_,_,_=>Ci
 |.Try _ [.ExceptHandler (some _) (some _) _ _] (_::_) _ _,_,_,_,_=>Ci
 |.Try _ [.ExceptHandler (some _) (some _) _ _] [] (_::_) _,_,_,_,_=>Ci
 |.TryStar _ _ _ _ _,_,_,_,_=>Ci
 |.Assert _ _ _,_,_,_,_=>Ci
 |.Import _ _,_,_,_,_=>Ci
 |.ImportFrom _ _ _ _,_,_,_,_=>Ci
 |.Global _ _,_,_,_,_=>Ci
 |.Nonlocal _ _,_,_,_,_=>Ci
theorem Ka:∀(sts:List Stmt) (Γ:Gm) (X:Cx) (E:L2.St->XK),Γ.SOk Θ X E->WSs X sts (tS Θ E (Cv sts Γ))
 |[],_,_,_,_=>Bal
 |s::ss,Γ,X,E,G=>Auv (Bbp s Γ X E G) (Ka ss Γ X E G)
end
end
structure Md where
 con:Str->Option W
 bi:Str->Bool
 exc:Str->Option Nat
 isa:Nat->W->Option Bool
 ns:List Int
 fld:Bool->Nat->Str->Bool
 fuel:Nat
 mdc:Str->Option (List (Str×Str))
 exi:Str->Option (Nat×List W)
 hcl:Str->Option Nat
 exm:Nat->Nat->Bool
 mn:Str->Bool:=fun _=>false
 mkl:Str->Option Nat:=fun _=>none
def Md.gm (m:Md) (T:List (Str×Fi)) (N:List Str) (sc:Scope) (U:List ((Nat×Str)×Fi):=[]):Gm:=
 { N:=N,sc:=sc,fn:=fun x=>T.lookup x,con:=m.con,bi:=m.bi,exc:=m.exc,isa:=m.isa,ns:=m.ns,fld:=m.fld,fuel:=m.fuel,calm:=true,fnB:=true,rs:=true,mdc:=m.mdc,exi:=m.exi,hcl:=m.hcl,exm:=m.exm,loops:=true,tr:=true,mt:=fun c n=>U.lookup (c,n),mn:=m.mn,mkc:=fun x=>(m.mkl x).bind fun c=>(U.lookup (c,("__init__":Str))).map fun i=>(c,i) }
structure Md.Ok (Θ:Th) (m:Md) (K:PySem.W.Frag) (mg:Str->Option Value):Prop where
 hK:K=Θ.K
 ns:m.ns=Θ.ns
 con:∀x w,m.con x=some w->∃v u,(∀ρ H,RV Θ ρ H w v)/\RelV v u/\(mg x=some u\/(mg x=none/\bootBuiltins x=some u))
 bi:∀x,m.bi x=true->mg x=none
 fld:FOk Θ m.fld
 isa:Aet Θ m.isa
 exc:∀x c,m.exc x=some c->Θ.xf c=none/\Aad K (Θ.cl c)/\mg x=some (.ref (Θ.cl c))
 mdc:∀x D,m.mdc x=some D->∃a,Al4 K a D/\mg x=some (.ref a)
 hcl:∀x k,m.hcl x=some k->mg x=some (.ref (Θ.cl k))
 exm:∀k c,m.exm k c=true->exmOne Θ.K (.ref (Θ.cl c)) (.ref (Θ.cl k))=some true
 mkl:∀x c,m.mkl x=some c->mg x=some (.ref (Θ.cl c))/\makesIn K (Θ.cl c)=true/\keepIn K (.ref (Θ.cl c))=true
def XiT (Θ:Th) (m:Md) (P:Program) (w:World) (K:PySem.W.Frag) (mg:Str->Option Value) (base:Heap) (k:Nat):Prop:=
 ∀x c dv,m.exi x=some (c,dv)->∃f,Θ.xf c=some f/\mg x=some (.ref (Θ.cl c))/\∃(fI:Addr) (fd:FuncData) (ps:List Str) (dvs:List V) (ds:List Value),Acl K (Θ.cl c) fI=true/\keepIn K (.ref (Θ.cl c))=true/\typeIn K (.ref fI)=some (.type "function")/\
  Gw P w K mg base (CXo P w) k fI fd ps (Alo (Θ.cl c) f) true/\Binds K fd ps ds/\Vals dvs ds/\dvs.length=dv.length
def Tbl (Θ:Th) (P:Program) (w:World) (K:PySem.W.Frag) (mg:Str->Option Value) (base:Heap) (k:Nat) (T:List (Str×Fi)):Prop:=
 ∀x i,T.lookup x=some i->∃(fa:Addr) (fd:FuncData) (ps:List Str) (df:Stmt),Og K mg x df ps fa fd/\Gw P w K mg base (CXo P w) k fa fd ps (spF Θ i.g) true/\∃dvs ds,Ex D.Jv i.dv=some dvs/\Vals dvs ds/\Binds K fd ps ds
def MTb (Θ:Th) (P:Program) (w:World) (K:PySem.W.Frag) (mg:Str->Option Value) (base:Heap) (k:Nat) (U:List ((Nat×Str)×Fi)):Prop:=
 ∀c n i,U.lookup (c,n)=some i->∃(fa:Addr) (fd:FuncData) (ps:List Str),Cls K (Θ.cl c)/\Meth K (Θ.cl c) n fa/\Gw P w K mg base (CXo P w) k fa fd ps (spF Θ i.g) true/\Binds K fd ps []/\∃dvs ds,Ex D.Jv i.dv=some dvs/\Vals dvs ds/\Binds K fd ps ds
section
variable {Θ:Th} {P:Program} {w:World} {K:PySem.W.Frag} {mg:Str->Option Value} {base:Heap} {m:Md} {T:List (Str×Fi)} {U:List ((Nat×Str)×Fi)} {k j:Nat}
theorem Tbl.nil:Tbl Θ P w K mg base k []:=fun x i h=>by cases h
theorem MTb.nil:MTb Θ P w K mg base k []:=fun c n i h=>by cases h
theorem Tbl.body (hT:Tbl Θ P w K mg base k T) (hU:MTb Θ P w K mg base k U) (hI:XiT Θ m P w K mg base j) (hj:j < k) (M:m.Ok Θ K mg) (nd:N.Nodup) (hr:Hc (k+1) (A.deeper (envOfC aj sc s.heap.objs.size f cdv)) true) :
  (m.gm T N sc U).SOk Θ (Ss (CXo P w) P w K mg base N aj sc f cdv A outer s H E true) (fun _=>E) where
 g:={
  hK:=M.hK
  ns:=M.ns
  hu:=by have:=hr.un;show (A.deeper (envOfC aj sc s.heap.objs.size f cdv)).units+64 < cLine;omega
  N:=rfl
  nd:=nd
  sc:=rfl
  fn:=fun x i h=>by
   obtain⟨fa,fd,ps,df,D,F,z⟩:=hT x i h;exact⟨k,fa,fd,ps,df,true,D,F,hr.mono (le_succ k),z⟩
  ps:=Ald
  con:=M.con
  bi:=M.bi
  fld:=M.fld
  isa:=M.isa
  calm:=fun _=>rfl
  fnB:=fun _ _=>rfl
  mdc:=M.mdc
  mt:=fun c n i h=>by
   obtain⟨fa,fd,ps,C,hm,F,z⟩:=hU c n i h;exact⟨k,fa,fd,ps,true,C,hm,F,hr.mono (le_succ k),z⟩
  mkc:=fun x c i h=>by
   obtain⟨c',h1,h2⟩:=Option.bind_eq_some_iff.mp h;obtain⟨i',h3,h4⟩:=map_eq_some_iff.mp h2;cases h4;obtain⟨q1,q2,q3⟩:=M.mkl x c h1;obtain⟨fa,fd,ps,C,hm,F,z⟩:=hU c _ i h3;exact⟨q1,k,fa,fd,ps,true,⟨q2,hm.at_,hm.fn,q3⟩,F,hr,z⟩ }
 hp:=fun _=>Alx
 hf:=fun _=>rfl
 rs:=fun _=>⟨E,rfl,Alc,Ahg,rfl⟩
 exi:=fun _ x c dv h=>by
  obtain⟨f,h1,h2,fI,fd,ps,dvs,ds,q1,q2,q3,F,q5,q6,q7⟩:=hI x c dv h;exact⟨f,h1,⟨fI,fd,ps,j,dvs,ds,q1,q2,q3,F,hr.mono (by omega),q5,q6,q7⟩,h2⟩
 hcl:=M.hcl
 exm:=M.exm
 tr:=fun _=>⟨rfl,rfl⟩
 exc:=M.exc
theorem Tbl.up (hT:Tbl Θ P w K mg base k T):Tbl Θ P w K mg base (k+2) T:=fun x i h=>by
 obtain⟨fa,fd,ps,df,D,F,z⟩:=hT x i h;exact⟨fa,fd,ps,df,D,F.mono (by omega),z⟩
theorem MTb.up (hU:MTb Θ P w K mg base k U):MTb Θ P w K mg base (k+2) U:=fun c n i h=>by
 obtain⟨fa,fd,ps,C,hm,F,z⟩:=hU c n i h;exact⟨fa,fd,ps,C,hm,F.mono (by omega),z⟩
theorem Tbl.fnM {nm qn:Str} {st:Stmt} {N ps:List Str} {f:Addr} {fd:FuncData} {b:MS} (hT:Tbl Θ P w K mg base k T) (hU:MTb Θ P w K mg base k U) (hI:XiT Θ m P w K mg base j) (hj:j < k) (M:m.Ok Θ K mg) (F:Fun K nm qn st f fd) (Sc:Fj N ps (Ak st))
  (e:Cv (Aq st) (m.gm T N (Ak st) U)=b):Gw P w K mg base (CXo P w) (k+2) f fd ps (spF Θ (Ck ps.length N.length b)) true:=by
 refine Bei F Sc fun cdv A outer s H E hr=>?_;rw[<-e];exact Ka _ _ _ _ (hT.body hU hI hj M Sc.nd hr)
theorem Tbl.fn {x:Str} {st:Stmt} {N ps:List Str} {f:Addr} {fd:FuncData} {b:MS} (hT:Tbl Θ P w K mg base k T) (hU:MTb Θ P w K mg base k U) (hI:XiT Θ m P w K mg base j) (hj:j < k) (M:m.Ok Θ K mg) (D:Og K mg x st ps f fd) (Sc:Fj N ps (Ak st))
  (e:Cv (Aq st) (m.gm T N (Ak st) U)=b):Gw P w K mg base (CXo P w) (k+2) f fd ps (spF Θ (Ck ps.length N.length b)) true:=hT.fnM hU hI hj M D.fn Sc e
theorem Tbl.cons {x:Str} {st:Stmt} {N ps:List Str} {f:Addr} {fd:FuncData} {b:MS} {dv:List W} {dvs:List V} {ds:List Value} (hT:Tbl Θ P w K mg base k T) (hU:MTb Θ P w K mg base k U) (hI:XiT Θ m P w K mg base j) (hj:j < k) (M:m.Ok Θ K mg) (D:Og K mg x st ps f fd) (Sc:Fj N ps (Ak st))
  (hv:Ex _root_.D.Jv dv=some dvs) (hd:Vals dvs ds) (hb:Binds K fd ps ds) (e:Cv (Aq st) (m.gm T N (Ak st) U)=b):Tbl Θ P w K mg base (k+2) ((x,⟨Ck ps.length N.length b,ps.length,dv⟩)::T):=fun y i h=>by
 rw[lookup_cons] at h;split at h
 .rename_i ey;have ey:y=x:=by simpa using ey
  subst ey;cases h;refine⟨f,fd,ps,st,D,?_,dvs,ds,hv,hd,hb⟩;exact hT.fn hU hI hj M D Sc e
 .exact hT.up y i h
theorem MTb.cons {c:Nat} {n nm qn:Str} {st:Stmt} {N ps:List Str} {f:Addr} {fd:FuncData} {b:MS} {dv:List W} {dvs:List V} {ds:List Value} (hU:MTb Θ P w K mg base k U) (hT:Tbl Θ P w K mg base k T) (hI:XiT Θ m P w K mg base j) (hj:j < k) (M:m.Ok Θ K mg) (C:Cls K (Θ.cl c)) (hm:Meth K (Θ.cl c) n f) (F:Fun K nm qn st f fd) (Sc:Fj N ps (Ak st))
  (hb0:Binds K fd ps []) (hv:Ex _root_.D.Jv dv=some dvs) (hd:Vals dvs ds) (hb:Binds K fd ps ds) (e:Cv (Aq st) (m.gm T N (Ak st) U)=b):MTb Θ P w K mg base (k+2) (((c,n),⟨Ck ps.length N.length b,ps.length,dv⟩)::U):=fun c' n' i h=>by
 rw[lookup_cons] at h;split at h
 .rename_i ey;have ey:(c',n')=(c,n):=by simpa using ey
  cases ey;cases h;exact⟨f,fd,ps,C,hm,hT.fnM hU hI hj M F Sc e,hb0,dvs,ds,hv,hd,hb⟩
 .exact hU.up c' n' i h
end
def Aqh (K:PySem.W.Frag) (cl:Nat->Addr) (l:Addr) (ns:List Int) (xf:Nat->Option Str):Th:=⟨K,cl,xf,l,ns,fun _=>false⟩
def Ajo (K:PySem.W.Frag):Sp:=fun vs H Q _=>∃(l:Addr) (ns:List Int),vs=[.ref l]/\Scr (Aqh K (fun _=>0) l ns fun _=>none) H/\ns.length<=63/\∀H',Q (.bl true) H'
theorem Avy:Rep Θ [] [] H:=⟨rfl,List.nodup_nil,fun n a c h=>by simp at h⟩
theorem Bbq {xf:Nat->Option Str} {P:Program} {w:World} {K:PySem.W.Frag} {mg:Str->Option Value} {base:Heap} {k:Nat} {f:Addr} {fd:FuncData} {x:Str} {cl:Nat->Addr} {g:List Int->List W->M W} (law:∀ns:List Int,ns.length<=63->∃S',g ns [.scr] []=.ok (.bl true) S')
  (h:∀l ns,Gw P w K mg base (CXo P w) k f fd [x] (spF (Aqh K cl l ns xf) (g ns))):Gw P w K mg base (CXo P w) k f fd [x] (Ajo K):=by
 refine⟨fun vs H Q E z=>?_,fun A outer s H args us vs Q E hr he hb hv z=>?_⟩
 .obtain⟨l,ns,rfl,_⟩:=z;rfl
 .obtain⟨l,ns,rfl,sc,hl,q⟩:=z;obtain⟨S',e⟩:=law ns hl;refine(h l ns).run A outer s H args us _ Q E hr he hb hv ⟨[],[],[.scr],Avy,.cons (.scr sc) .nil,?_⟩;rw[e];intro ρ1 H1 v p1 t1 R1 rv;cases rv;exact q H1
theorem Aqi {l:PySem.W.OpenLaw} {k:Nat} {q:Program} {loose:List Str} {XP:(Str->Option Value)->Heap->Prop} {YP:World->Heap->Prop} {d:DefRec} {K:Params->PySem.W.Frag} {x:Str} (hn:l.most=some 63) (hdf:d.params.defaults=[]) (hr:Hc k callerA)
  (hY:∀(w:World) (h:Heap),YP w h->(K w.params).In h)
  (F:∀(w:World) (mg:Str->Option Value) (fa:Addr) (h:Heap),(K w.params).In h->h.Ns mainGlobals mg->mg d.name=some (.ref fa)->
   ∃fd:FuncData,(∀(s:Shared) (u:Value),BindsTo s fd ⟨[u],[]⟩ [(x,u)])/\∀base:Heap,(K w.params).In base->base.Ns mainGlobals mg->Gw l.prog w (K w.params) mg base (CXo l.prog w) k fa fd [x] (Ajo (K w.params))) :
  PySem.W.WalkO q loose XP YP l.row.toRowW d [] (fun f vs=>PySem.call f vs):=
 L2.Atf (n:=63) (k:=k) (x:=x) (CX:=fun w=>CXo l.prog w) (sp:=fun w=>Ajo (K w.params)) hn (by decide) hdf hr hY F (fun w H a ns hl hO hS=>⟨a,ns,rfl,by
  rcases hS with (h|h)|h
  .rcases hO a with z|⟨o,xs,z⟩
   .rw[z] at h;cases h
   .rw[z] at h;cases h
  .exact .inl h
  .exact .inr h,hl,fun _=>rfl⟩) fun _ _ _ _ _ ⟨_,_,_,_,_,_,_,z⟩=>z
def AllP {α:Type} (P:Str->α->Prop):List (Str×α)->Prop
 |[]=>True
 |p::l=>P p.1 p.2/\AllP P l
theorem AllP.at {α:Type} {P:Str->α->Prop}:∀{L:List (Str×α)},AllP P L->∀x a,L.lookup x=some a->P x a
 |[],_,x,a,h=>by cases h
 |(y,b)::l,hp,x,a,h=>by
  rw[lookup_cons] at h;split at h
  .rename_i e;have e:x=y:=by simpa using e
   subst e;cases h;exact hp.1
  .exact AllP.at hp.2 x a h
def AllB (P:Str->Prop):List Str->Prop
 |[]=>True
 |p::l=>P p/\AllB P l
theorem AllB.at:∀{L:List Str},AllB P L->∀x,L.contains x=true->P x
 |[],_,x,h=>by simp at h
 |y::l,hp,x,h=>by
  rw[List.contains_cons,or_eq_true] at h;rcases h with e|h
  .have e:x=y:=by simpa using e
   subst e;exact hp.1
  .exact AllB.at hp.2 x h
def Aqj (Θ:Th) (mg:Str->Option Value) (x:Str) (w:W):Prop:=∃v u,(∀ρ H,RV Θ ρ H w v)/\RelV v u/\(mg x=some u\/(mg x=none/\bootBuiltins x=some u))
section
theorem Ew {i:Int} {t:Tok} (h:mg x=some (.int i t)):Aqj Θ mg x (.int i):=⟨.int i,_,fun _ _=>.int i,⟨t,rfl⟩,.inl h⟩
theorem Ajp {t:Tok} (h:mg x=some (.str z t)):Aqj Θ mg x (.str z):=⟨.str z,_,fun _ _=>.str z,⟨t,rfl⟩,.inl h⟩
theorem Vj (h:mg x=none) (hb:bootBuiltins x=some (.type n)):Aqj Θ mg x (.ty n):=⟨.ty n,_,fun _ _=>.ty n,rfl,.inr ⟨h,hb⟩⟩
theorem Rj {c:Nat} (h:mg x=some (.ref (Θ.cl c))):Aqj Θ mg x (.cls c):=⟨.ref (Θ.cl c),_,fun _ _=>.cls c,rfl,.inl h⟩
end
def addrs (cs:List Addr) (c:Nat):Addr:=cs.getD c 0
def isB (o:Option (Option Value)) (n:String):Bool:=match o with
 |some (some (.builtin m))=>m==n
 |_=>false
theorem Yv (h:isB o n=true):o=some (some (.builtin n)):=by
 unfold isB at h;split at h
 .rw[eq_of_beq h]
 .cases h
def isN (o:Option (Option Value)):Bool:=match o with
 |some none=>true
 |_=>false
theorem Ac2 (h:isN o=true):o=some none:=by
 unfold isN at h;split at h
 .rfl
 .cases h
def Ajq (K:PySem.W.Frag) (C:Addr):Bool:=(PySem.W.clsIn K C).isSome&&isB (PySem.W.findIn K (.ref C) "__getattribute__") "BaseException.__getattribute__"&&isN (PySem.W.findIn K (.ref C) "__getattr__")&&
 isB (PySem.W.findIn K (.ref C) "__class__") "object.__class__"&&decide (PySem.W.mroIn K C (.type "BaseException")=some true)&&decide (PySem.W.mroIn K C (.type "object")=some true)
theorem Ajr {K:PySem.W.Frag} {C:Addr} (h:Ajq K C=true):W8 K C:=by
 unfold Ajq at h;simp only[and_eq_true,decide_eq_true_eq] at h;obtain⟨⟨⟨⟨⟨a,b⟩,c⟩,d⟩,e⟩,f⟩:=h;exact⟨a,Yv b,Ac2 c,Yv d,e,f⟩
def Aht (v:Value) (n:String):Bool:=match v with
 |.type m=>m==n
 |_=>false
theorem Uj (h:Aht v n=true):v=.type n:=by
 unfold Aht at h;split at h
 .rw[eq_of_beq h]
 .cases h
def refs (l:List Value):Bool:=l.all fun a=>match a with|.ref _=>true|_=>false
def Bbr (n:Nat) (l:List Value):Bool:=refs (l.take n)&&(match l.drop n with
 |[a,b,c,d]=>Aht a "ValueError"&&Aht b "Exception"&&Aht c "BaseException"&&Aht d "object"
 |_=>false)
theorem Avz {n:Nat} (h:Bbr n l=true):∃own,l=own ++ Yc/\refs own=true:=by
 unfold Bbr at h;rw[and_eq_true] at h;refine⟨l.take n,?_,h.1⟩;have h2:=h.2;split at h2
 .rename_i a b c d e;simp only[and_eq_true] at h2;obtain⟨⟨⟨q1,q2⟩,q3⟩,q4⟩:=h2;rw[Uj q1,Uj q2,Uj q3,Uj q4] at e;exact(List.take_append_drop n l).symm.trans (by rw[e])
 .cases h2
def xsB (K:PySem.W.Frag) (C:Addr) (f:Str):Bool:=(match PySem.W.clsIn K C with
 |some cd=>Bbr (cd.mro.length - 4) cd.mro&&cd.hasDict
 |none=>false)&&isB (PySem.W.findIn K (.ref C) "__setattr__") "object.__setattr__"&&isN (PySem.W.findIn K (.ref C) f)&&decide (PySem.W.mroIn K C (.type "object")=some true)
theorem Beu {K:PySem.W.Frag} {C:Addr} {f:Str} (h:xsB K C f=true):XsK K C f:=by
 unfold xsB at h;simp only[and_eq_true,decide_eq_true_eq] at h;obtain⟨⟨⟨a,b⟩,c⟩,d⟩:=h;refine⟨?_,Yv b,Ac2 c,d⟩;split at a
 .rename_i cd e;rw[and_eq_true] at a;obtain⟨own,h1,h2⟩:=Avz a.1;exact⟨cd,own,e,h1,h2,a.2⟩
 .cases a
def xbB (K:PySem.W.Frag) (B:Addr):Bool:=isB (specialIn K (.ref B) "__getattribute__") "type.__getattribute__"&&readsIn K B (.type "type")&&(match findCls K (.ref B) (.type "type") "__init__" with
 |some (.val (.builtin m))=>m=="ValueError.__init__"
 |_=>false)
theorem Bev {K:PySem.W.Frag} {B:Addr} (h:xbB K B=true):XbK K B:=by
 unfold xbB at h;simp only[and_eq_true] at h;obtain⟨⟨a,b⟩,c⟩:=h;refine⟨Yv a,b,?_⟩;split at c
 .rename_i m e;rw[e,eq_of_beq c]
 .cases c
def Bbs (K:PySem.W.Frag) (f:Addr):Bool:=match typeIn K (.ref f) with
 |some v=>Aht v "function"
 |none=>false
theorem Av0 {K:PySem.W.Frag} {f:Addr} (h:Bbs K f=true):typeIn K (.ref f)=some (.type "function"):=by
 unfold Bbs at h;split at h
 .rename_i v e;rw[e,Uj h]
 .cases h
def Ajs (K:PySem.W.Frag) (cs:List Addr) (L:List (Nat×Nat×Bool)):Bool:=L.all fun t=>decide (kitOne K (.ref (addrs cs t.1)) (.ref (addrs cs t.2.1))=some t.2.2)
def Aqk (K:PySem.W.Frag) (cs:List Addr) (L:List Nat):Bool:=L.all fun c=>Ajq K (addrs cs c)&&decide (kitOne K (.ref (addrs cs c)) (.type "ValueError")=some true)
def Aql (N:List (Nat×Nat×Bool)) (L:List Nat) (c:Nat):W->Option Bool
 |.cls k=>if L.contains c then (N.find? fun t=>t.1==c&&t.2.1==k).map (·.2.2) else none
 |.ty n=>if n=="ValueError"&&L.contains c then some true else none
 |_=>none
theorem Bbt {xf:Nat->Option Str} {K:PySem.W.Frag} {cs:List Addr} {l:Addr} {ns:List Int} {N:List (Nat×Nat×Bool)} {L:List Nat} (h1:Ajs K cs N=true) (h2:Aqk K cs L=true):Aet (Aqh K (addrs cs) l ns xf) (Aql N L):=⟨fun c k b h=>by
 have ek:∀c,L.contains c=true->W8 K (addrs cs c)/\kitOne K (.ref (addrs cs c)) (.type "ValueError")=some true:=fun c hc=>by
  have z:=all_eq_true.mp h2 c (by simpa using hc)
  rw[and_eq_true] at z;exact⟨Ajr z.1,of_decide_eq_true z.2⟩
 unfold Aql at h;split at h
 .rename_i k;split at h
  .rename_i hc;obtain⟨t,ht,rfl⟩:=map_eq_some_iff.mp h;have hm:=List.mem_of_find?_eq_some ht;have hp:=List.find?_some ht;rw[and_eq_true] at hp;have e1:t.1=c:=by simpa using hp.1
   have e2:t.2.1=k:=by simpa using hp.2
   have z:=of_decide_eq_true (all_eq_true.mp h1 t hm);rw[e1,e2] at z;exact⟨(ek c hc).1,_,rfl,z⟩
  .cases h
 .split at h
  .rename_i n hc;rw[and_eq_true] at hc;have e:n="ValueError":=by simpa using hc.1
   subst e;cases h;exact⟨(ek c hc.2).1,_,rfl,(ek c hc.2).2⟩
  .cases h
 .cases h⟩
def Aqm (K:PySem.W.Frag) (C:Addr):Bool:=plainGet K C Str.empty&&hasDictIn K C&&plainOver K C&&isB (PySem.W.findIn K (.ref C) "__setattr__") "object.__setattr__"
theorem Aqn {K:PySem.W.Frag} {C:Addr} (h:Aqm K C=true):Cls K C:=by
 unfold Aqm at h;simp only[and_eq_true] at h;obtain⟨⟨⟨a,b⟩,c⟩,d⟩:=h;exact⟨a,b,c,Yv d⟩
def Ajt (K:PySem.W.Frag) (cs:List Addr) (L:List (Nat×Str)):Bool:=L.all fun p=>Aqm K (addrs cs p.1)&&isN (PySem.W.findIn K (.ref (addrs cs p.1)) p.2)
def Aqo (K:PySem.W.Frag) (cs:List Addr) (L:List (Nat×Str)):Bool:=L.all fun p=>Ajq K (addrs cs p.1)&&hasDictIn K (addrs cs p.1)&&isN (PySem.W.findIn K (.ref (addrs cs p.1)) p.2)
theorem mem_lookup {α:Type} {c:Nat} {f:α}:∀{L:List (Nat×α)},L.lookup c=some f->(c,f)∈L
 |[],h=>by cases h
 |(d,g)::L,h=>by
  rw[lookup_cons] at h;split at h
  .rename_i e;cases h;rw[eq_of_beq e];exact mem_cons_self
  .exact mem_cons_of_mem _ (mem_lookup h)
theorem Bbu {K:PySem.W.Frag} {cs:List Addr} {l:Addr} {ns:List Int} {L X:List (Nat×Str)} (h:Ajt K cs L=true) (hx:Aqo K cs X=true):FOk (Aqh K (addrs cs) l ns fun c=>X.lookup c) (fun b c f=>if b then X.lookup c==some f else L.contains (c,f)):=⟨fun c f hc=>by
 have hc:L.contains (c,f)=true:=hc;have z:=all_eq_true.mp h (c,f) (by simpa using hc)
 rw[and_eq_true] at z;exact⟨Aqn z.1,Ac2 z.2⟩,fun c f hc=>by
 have e:X.lookup c=some f:=eq_of_beq hc;have z:=all_eq_true.mp hx (c,f) (mem_lookup e);rw[and_eq_true,and_eq_true] at z;exact⟨e,Ajr z.1.1,z.1.2,Ac2 z.2⟩⟩
def Aju (K:PySem.W.Frag) (cs:List Addr) (L:List (Nat×Nat)):Bool:=L.all fun t=>decide (exmOne K (.ref (addrs cs t.2)) (.ref (addrs cs t.1))=some true)
theorem Bbv {K:PySem.W.Frag} {cs:List Addr} {L:List (Nat×Nat)} (h:Aju K cs L=true) (k c:Nat) (hc:L.contains (k,c)=true):exmOne K (.ref (addrs cs c)) (.ref (addrs cs k))=some true:=
 of_decide_eq_true (all_eq_true.mp h (k,c) (by simpa using hc))
theorem Av1 {K:PySem.W.Frag} {a:Addr} {D:List (Str×Str)} (h:KTD.tabLook (KTD.datLooks fun b=>K.lookup b) (fun b=>K.lookup b) a (D.map fun p=>(p.1,KTD.Dat.flat (.str p.2)))=true):Al4 K a D:=fun hp x=>KTD.text_of_look (fun b o q=>x b o q) h
def El (K:PySem.W.Frag) (mg:Str->Option Value) (x:Str) (st:Stmt) (_:List Str):Prop:=∃(f:Addr) (kV dc pm:Value) (an:Option Addr) (cd ct:Value),Fun K x x st f (fnOf x x (Dt st) (Aq st) (Ak st) .none kV dc pm an cd ct)/\mg x=some (.ref f)
def Yw (K:PySem.W.Frag) (c:Addr) (x q:Str) (st:Stmt) (_:List Str):Prop:=∃(f:Addr) (kV dc pm:Value) (an:Option Addr) (cd ct:Value),Fun K x q st f (fnOf x q (Dt st) (Aq st) (Ak st) .none kV dc pm an cd ct)/\Meth K c x f
section
variable {K:PySem.W.Frag} {mg:Str->Option Value} {h:Heap} {x q:Str} {st:Stmt} {ps:List Str} {f c:Addr} {oc kV dc pm cd ct:Value} {od an:Option Addr} {sl:Array (Option Value)}
theorem Dl (X:K.In h) (G:h.Ns mainGlobals mg) (a:nsIn K mainGlobals x=some (some (.ref f))) (b:K.lookup f=some ⟨oc,od,.func (fnOf x x (Dt st) (Aq st) (Ak st) .none kV dc pm an cd ct),sl⟩) (d:codeIn K cd x=true) (e:keepIn K (.ref f)=true):El K mg x st ps:=
 ⟨f,kV,dc,pm,an,cd,ct,Acf b d e,mg_of X G a⟩
theorem Uk (a:PySem.W.findIn K (.ref c) x=some (some (.ref f))) (b:K.lookup f=some ⟨oc,od,.func (fnOf x q (Dt st) (Aq st) (Ak st) .none kV dc pm an cd ct),sl⟩) (d:codeIn K cd q=true) (e:keepIn K (.ref f)=true) (g:isFn K (.ref f)=true):Yw K c x q st ps:=
 ⟨f,kV,dc,pm,an,cd,ct,Acf b d e,a,g,e⟩
end
structure TU (Θ:Th) (m:Md) (P:Program) (w:World) (K:PySem.W.Frag) (mg:Str->Option Value) (base:Heap) (k:Nat) (T:List (Str×Fi)) (U:List ((Nat×Str)×Fi)):Prop where
 t:Tbl Θ P w K mg base k T
 u:MTb Θ P w K mg base k U
 i:XiT Θ m P w K mg base 1
 j:1 < k
 m:m.Ok Θ K mg
section
variable {Θ:Th} {m:Md} {P:Program} {w:World} {K:PySem.W.Frag} {mg:Str->Option Value} {base:Heap} {k:Nat} {T:List (Str×Fi)} {U:List ((Nat×Str)×Fi)} {x q:Str} {st:Stmt} {N ps:List Str} {b:MS} {f:Addr} {fd:FuncData} {c:Nat}
theorem Bg7 (e:Cv (Aq st) (m.gm T N (Ak st) U)=b) (h:TU Θ m P w K mg base k T U) (d:Og K mg x st ps f fd) (Sc:Fj N ps (Ak st):=by exact⟨rfl,rfl,rfl,by decide +kernel,rfl,by decide +kernel,by decide +kernel⟩):Gw P w K mg base (CXo P w) (k+2) f fd ps (spF Θ (Ck ps.length N.length b)) true:=h.t.fn h.u h.i h.j h.m d Sc e
theorem Bew (e:Cv (Aq st) (m.gm T N (Ak st) U)=b) (h:TU Θ m P w K mg base k T U) (d:Og K mg x st ps f fd) (hv:Ex _root_.D.Jv dv=some dvs) (hd:Vals dvs ds) (hb:Binds K fd ps ds) (Sc:Fj N ps (Ak st):=by exact⟨rfl,rfl,rfl,by decide +kernel,rfl,by decide +kernel,by decide +kernel⟩):TU Θ m P w K mg base (k+2) ((x,⟨Ck ps.length N.length b,ps.length,dv⟩)::T) U:=
 ⟨h.t.cons h.u h.i h.j h.m d Sc hv hd hb e,h.u.up,h.i,Nat.lt_add_right 2 h.j,h.m⟩
theorem Qz0 {p:List Value->Prop} (f:p []) (us:List Value) (h:us.length=0):p us:=by
 cases us
 .exact f
 .cases h
theorem QzS {p:List Value->Prop} {n:Nat} (f:∀x us,us.length=n->p (x::us)) (us:List Value) (h:us.length=n+1):p us:=by
 cases us
 .cases h
 .exact f _ _ (Nat.succ.inj h)
theorem Ei (e:Cv (Aq st) (m.gm T N (Ak st) U)=b) (h:TU Θ m P w K mg base k T U) (d:El K mg x st ps) (Sc:Fj N ps (Ak st):=by exact⟨rfl,rfl,rfl,by decide +kernel,rfl,by decide +kernel,by decide +kernel⟩)
  (hb:∀(kV dc pm:Value) (an:Option Addr) (cd ct:Value) (us:List Value),us.length=ps.length->bindArgs (fnOf x x (Dt st) (Aq st) (Ak st) .none kV dc pm an cd ct) ⟨us,[]⟩=pure (ps.zip us):=by intro _ _ _ _ _ _;(repeat refine QzS fun _=>?_);exact Qz0 rfl) :
  TU Θ m P w K mg base (k+2) ((x,⟨Ck ps.length N.length b,ps.length,[]⟩)::T) U:=by
 obtain⟨f,kV,dc,pm,an,cd,ct,F,hm⟩:=d;have B:Binds K (fnOf x x (Dt st) (Aq st) (Ak st) .none kV dc pm an cd ct) ps []:=Yb (hb kV dc pm an cd ct);exact Bew e h ⟨F,hm,B⟩ rfl .nil B Sc
theorem Ac3 (e:Cv (Aq st) (m.gm T N (Ak st) U)=b) (h:TU Θ m P w K mg base k T U) (C:Aqm K (Θ.cl c)=true) (d:Yw K (Θ.cl c) x q st ps) (Sc:Fj N ps (Ak st):=by exact⟨rfl,rfl,rfl,by decide +kernel,rfl,by decide +kernel,by decide +kernel⟩)
  (hb:∀(kV dc pm:Value) (an:Option Addr) (cd ct:Value) (us:List Value),us.length=ps.length->bindArgs (fnOf x q (Dt st) (Aq st) (Ak st) .none kV dc pm an cd ct) ⟨us,[]⟩=pure (ps.zip us):=by intro _ _ _ _ _ _;(repeat refine QzS fun _=>?_);exact Qz0 rfl) :
  TU Θ m P w K mg base (k+2) T (((c,x),⟨Ck ps.length N.length b,ps.length,[]⟩)::U):=by
 obtain⟨f,kV,dc,pm,an,cd,ct,F,hm⟩:=d;have B:Binds K (fnOf x q (Dt st) (Aq st) (Ak st) .none kV dc pm an cd ct) ps []:=Yb (hb kV dc pm an cd ct);exact⟨h.t.up,h.u.cons (dv:=[]) h.t h.i h.j h.m (Aqn C) hm F Sc B rfl .nil B e,h.i,Nat.lt_add_right 2 h.j,h.m⟩
end
structure SP where
 p:Store->Prop
 st:∀S G:Store,p S->p (S ++ G)
def SP.any:SP:=⟨fun _=>True,fun _ _ h=>h⟩
def AtL (n:Nat) (ws:List W) (S:Store):Prop:=S[n]?=some (.lst ws)
theorem AtL.app {n:Nat} (h:AtL n ws S) (G:Store):AtL n ws (S ++ G):=by
 unfold AtL at h ⊢
 rw[getElem?_append_left (List.getElem?_eq_some_iff.mp h).1];exact h
def SP.at (P:SP) (n:Nat) (ws:List W):SP:=⟨fun S=>P.p S/\AtL n ws S,fun S G h=>⟨P.st S G h.1,h.2.app G⟩⟩
def Pu {α:Type} (P:SP) (m:M α) (a:α):Prop:=∀S:Store,P.p S->∃G:Store,m S=.ok a (S ++ G)
def PuX {α:Type} (P:SP) (m:M α) (c:Nat×W):Prop:=∀S:Store,P.p S->∃G:Store,m S=.exc c (S ++ G)
def PuL (P:SP) (m:M W) (ws:List W):Prop:=∀S:Store,P.p S->∃(G:Store) (n:Nat),m S=.ok (.ref n) (S ++ G)/\(S ++ G)[n]?=some (.lst ws)/\S.length<=n
def PuN (P:SP) (b:MS) (δ δ':De):Prop:=∀S:Store,P.p S->∃G:Store,b δ S=.nx δ' (S ++ G)
def PuR (P:SP) (b:MS) (δ:De) (w:W):Prop:=∀S:Store,P.p S->∃G:Store,b δ S=.rt w (S ++ G)
def PuE (P:SP) (b:MS) (δ:De) (c:Nat×W):Prop:=∀S:Store,P.p S->∃(G:Store) (δ':De),b δ S=.ex c δ' (S ++ G)
section
variable {P:SP} {α β:Type} {m:M α} {f:α->M β} {a:α} {b:β} {c:Nat×W} {δ δ' δ1:De} {w x y z:W} {ws us:List W}
theorem Br (S:Store):(m >>= f) S=match m S with|.ok a S1=>f a S1|.exc c S1=>.exc c S1|.bad=>.bad:=rfl
theorem Pu.pure:Pu P (pure a:M α) a:=fun S _=>⟨[],by rw[append_nil];rfl⟩
theorem Pu.bind (h:Pu P m a) (k:Pu P (f a) b):Pu P (m >>= f) b:=fun S hS=>by
 obtain⟨G,e⟩:=h S hS;obtain⟨G',e'⟩:=k (S ++ G) (P.st _ _ hS);exact⟨G ++ G',by rw[Br,e];simp only[e',append_assoc]⟩
theorem Pu.bindX (h:Pu P m a) (k:PuX P (f a) c):PuX P (m >>= f) c:=fun S hS=>by
 obtain⟨G,e⟩:=h S hS;obtain⟨G',e'⟩:=k (S ++ G) (P.st _ _ hS);exact⟨G ++ G',by rw[Br,e];simp only[e',append_assoc]⟩
theorem Pu.cast {a':α} (h:Pu P m a) (e:a=a'):Pu P m a':=e ▸ h
variable {P:SP} {f g h:De->M W} {gs:De->M (List W)} {t u:De->M Bool} {s:List W->M W} {i:Nat} {ns:List Int}
theorem Ai:Pu P (kF w δ) w:=Pu.pure
theorem Af (e:δ[i]?=some (some w)):Pu P (Ac i δ) w:=fun S _=>⟨[],by unfold Ac;rw[e,append_nil];rfl⟩
theorem Ag:Pu P (nilF δ) []:=Pu.pure
theorem Ab (h1:Pu P (f δ) w) (h2:Pu P (gs δ) ws):Pu P (Aa f gs δ) (w::ws):=h1.bind (h2.bind Pu.pure)
theorem Ah (h1:Pu P (gs δ) ws) (h2:Pu P (s ws) w):Pu P (Ae s gs δ) w:=h1.bind h2
theorem Aqp (h1:Pu P (gs δ) ws) (h2:PuX P (s ws) c):PuX P (Ae s gs δ) c:=h1.bindX h2
theorem An (h1:Pu P (f δ) x) (h2:Pu P (g δ) y) (h3:Pu P (o.fn x y) z):Pu P (Ao o f g δ) z:=h1.bind (h2.bind h3)
theorem Ar (h1:Pu P (f δ) x) (h2:Pu P (g δ) y) (h3:Pu P (Jx op x y) z):Pu P (Bf op f g δ) z:=h1.bind (h2.bind h3)
theorem Cp (h1:Pu P (f δ) (.bl true)) (h2:Pu P (g δ) w):Pu P (Ff f g δ) w:=h1.bind h2
theorem Al7 (h1:Pu P (f δ) (.bl false)):Pu P (Ff f g δ) (.bl false):=h1.bind Pu.pure
theorem Bbw (h1:Pu P (f δ) (.bl p)) (h2:p=true->Pu P (g δ) (.bl q)):Pu P (Ff f g δ) (.bl (p&&q)):=by
 cases p
 .exact Al7 h1
 .exact Cp h1 (h2 rfl)
theorem Al (h1:Pu P (f δ) (.bl p)):Pu P (Ay f δ) p:=h1.bind Pu.pure
theorem Tc (h1:Pu P (gs δ) ws) (hl:ws.length<=big):Pu P (Jk gs δ) (.tup ws):=h1.bind (by unfold Acn;rw[if_pos hl];exact Pu.pure)
theorem Av2 (h1:Pu P (gs δ) ws) (hl:ws.length<=big):PuL P (Oj gs δ) ws:=fun S hS=>by
 obtain⟨G,e⟩:=h1 S hS;refine⟨G ++ [.lst ws],(S ++ G).length,?_,?_,by rw[length_append];omega⟩
 .unfold Oj;rw[Br,e];dsimp only;unfold Ce;rw[if_pos hl,append_assoc]
 .rw[<-append_assoc,getElem?_append_right (le_refl _),sub_self];rfl
end
section
variable {P:SP} {b b':MS} {δ δ' δ1:De} {w:W} {c:Nat×W} {f:De->M W} {t:De->M Bool} {i k n:Nat} {gs:De->M (List W)} {ws:List W}
theorem Av:PuN P Am δ δ:=fun S _=>⟨[],by rw[append_nil];rfl⟩
theorem Mf (h1:PuN P b δ δ1) (h2:PuN P b' δ1 δ'):PuN P (Aj b b') δ δ':=fun S hS=>by
 obtain⟨G,e⟩:=h1 S hS;obtain⟨G',e'⟩:=h2 (S ++ G) (P.st _ _ hS);exact⟨G ++ G',by unfold Aj;rw[e];simp only[e',append_assoc]⟩
theorem Bx (h1:PuN P b δ δ1) (h2:PuR P b' δ1 w):PuR P (Aj b b') δ w:=fun S hS=>by
 obtain⟨G,e⟩:=h1 S hS;obtain⟨G',e'⟩:=h2 (S ++ G) (P.st _ _ hS);exact⟨G ++ G',by unfold Aj;rw[e];simp only[e',append_assoc]⟩
theorem Bex (h1:PuN P b δ δ1) (h2:PuE P b' δ1 c):PuE P (Aj b b') δ c:=fun S hS=>by
 obtain⟨G,e⟩:=h1 S hS;obtain⟨G',δ2,e'⟩:=h2 (S ++ G) (P.st _ _ hS);exact⟨G ++ G',δ2,by unfold Aj;rw[e];simp only[e',append_assoc]⟩
theorem Bp (h1:PuR P b δ w):PuR P (Aj b b') δ w:=fun S hS=>by
 obtain⟨G,e⟩:=h1 S hS;exact⟨G,by unfold Aj;rw[e]⟩
theorem Wj (h1:PuE P b δ c):PuE P (Aj b b') δ c:=fun S hS=>by
 obtain⟨G,δ2,e⟩:=h1 S hS;exact⟨G,δ2,by unfold Aj;rw[e]⟩
theorem Bd (h:Pu P (f δ) w):PuN P (Bo i f) δ (δ.set i (some w)):=fun S hS=>by
 obtain⟨G,e⟩:=h S hS;exact⟨G,by unfold Bo Fg;rw[e]⟩
theorem Bb (h:Pu P (f δ) w):PuR P (retS f) δ w:=fun S hS=>by
 obtain⟨G,e⟩:=h S hS;exact⟨G,by unfold retS Fg;rw[e]⟩
theorem Bbx (e:t δ S=.ok true S1) (h:b δ S1=r):ifS t b b' δ S=r:=by unfold ifS Fg;rw[e];exact h
theorem Bg8 (e:t δ S=.ok false S1) (h:b' δ S1=r):ifS t b b' δ S=r:=by unfold ifS Fg;rw[e];exact h
theorem Bey (h1:Pu P (t δ) true) (h2:PuN P b δ δ'):PuN P (ifS t b b') δ δ':=fun S hS=>by
 obtain⟨G,e⟩:=h1 S hS;obtain⟨G',e'⟩:=h2 (S ++ G) (P.st _ _ hS);exact⟨G ++ G',Bbx e (by rw[e',append_assoc])⟩
theorem Bez (h1:Pu P (t δ) false) (h2:PuN P b' δ δ'):PuN P (ifS t b b') δ δ':=fun S hS=>by
 obtain⟨G,e⟩:=h1 S hS;obtain⟨G',e'⟩:=h2 (S ++ G) (P.st _ _ hS);exact⟨G ++ G',Bg8 e (by rw[e',append_assoc])⟩
theorem Be0 (h1:Pu P (t δ) true) (h2:PuR P b δ w):PuR P (ifS t b b') δ w:=fun S hS=>by
 obtain⟨G,e⟩:=h1 S hS;obtain⟨G',e'⟩:=h2 (S ++ G) (P.st _ _ hS);exact⟨G ++ G',Bbx e (by rw[e',append_assoc])⟩
theorem Be1 (h1:Pu P (t δ) true) (h2:PuE P b δ c):PuE P (ifS t b b') δ c:=fun S hS=>by
 obtain⟨G,e⟩:=h1 S hS;obtain⟨G',δ2,e'⟩:=h2 (S ++ G) (P.st _ _ hS);exact⟨G ++ G',δ2,Bbx e (by rw[e',append_assoc])⟩
theorem Nj (h:Pu P (gs δ) (w::us)) (hl:us.length+dv.length=1):PuE P (J9 k dv gs) δ (k,w):=fun S hS=>by
 obtain⟨G,e⟩:=h S hS;exact⟨G,δ,by unfold J9 Fg;rw[e];exact if_pos hl⟩
theorem Bq (hl:ws.length=k) (h:PuR P b (Bw n ws) w):Pu P (Ck k n b ws) w:=fun S hS=>by
 obtain⟨G,e⟩:=h S hS;exact⟨G,by unfold Ck;rw[if_pos hl,e]⟩
theorem Ac4 (hl:ws.length=k) (h:PuE P b (Bw n ws) c):PuX P (Ck k n b ws) c:=fun S hS=>by
 obtain⟨G,δ2,e⟩:=h S hS;exact⟨G,by unfold Ck;rw[if_pos hl,e]⟩
theorem Rk:PuN P (Ly s b []) δ δ:=fun S _=>⟨[],by rw[append_nil];rfl⟩
theorem Jz (hs:s w δ=some δ1) (h1:PuN P b δ1 δ2) (h2:PuN P (Ly s b ws) δ2 δ'):PuN P (Ly s b (w::ws)) δ δ':=fun S hS=>by
 obtain⟨G,e⟩:=h1 S hS;obtain⟨G',e'⟩:=h2 (S ++ G) (P.st _ _ hS);exact⟨G ++ G',by unfold Ly;rw[hs];dsimp only;rw[e];dsimp only;rw[e',append_assoc]⟩
theorem Lj (h1:Pu P (src δ) (.fix ws)) (h2:PuN P (Ly s b ws) δ δ'):PuN P (Vh src s b) δ δ':=fun S hS=>by
 obtain⟨G,e⟩:=h1 S hS;obtain⟨G',e'⟩:=h2 (S ++ G) (P.st _ _ hS);exact⟨G ++ G',by unfold Vh Fg;rw[e];dsimp only;rw[e',append_assoc]⟩
end
section
variable {P:SP} {δ:De} {cs:De} {t:De->M Bool} {e:De->M W} {f:W->W} {ws:List W}
theorem O8 {α:Type} {m:M α} {a:α} (h:Pu P m a):Pu P (noX m) a:=fun S hS=>by
 obtain⟨G,e⟩:=h S hS;exact⟨G,by unfold noX;rw[e]⟩
theorem Aqq {β:Type} {xs:List β} {φ ψ:β->W} (he:∀x,x∈xs->Pu P (t (some (φ x)::cs)) true/\Pu P (e (some (φ x)::cs)) (ψ x)):∀(d:Option W) (acc:List W),acc.length+xs.length<=big->Pu P (Hx (Cu 0) t e (xs.map φ) (d::cs) acc) (acc ++ xs.map ψ):=by
 induction xs with
 |nil=>intro d acc _ S _;exact⟨[],by simp[Hx];rfl⟩
 |cons x xs ih=>
  intro d acc hl;rw[length_cons] at hl;have h1:=(he x mem_cons_self);have h2:=ih (fun x' hx=>he x' (mem_cons_of_mem _ hx)) (some (φ x)) (acc ++ [ψ x]) (by rw[length_append,length_singleton];omega)
  rw[map_cons,map_cons];rw[append_assoc,List.singleton_append] at h2;intro S hS;have:=(O8 h1.1).bind (f:=fun b=>if b=true then noX (e (some (φ x)::cs)) >>= fun y=>if acc.length < big then Hx (Cu 0) t e (xs.map φ) (some (φ x)::cs) (acc ++ [y]) else bad else Hx (Cu 0) t e (xs.map φ) (some (φ x)::cs) acc) (b:=acc ++ ψ x::xs.map ψ) (by
   rw[if_pos rfl];refine(O8 h1.2).bind ?_;rw[if_pos (by omega)]
   exact h2)
  exact this S hS
end
section
variable {P:SP} {δ:De} {t u:De->M Bool} {f g h:De->M W} {p q:Bool} {i j:Int} {x y z:Str} {ns:List Int} {w v o:W} {ws:List W} {k:Nat}
theorem Cz (h1:Pu P (t δ) p):Pu P (Ld t δ) (!p):=h1.bind Pu.pure
theorem Em (h1:Pu P (t δ) p) (h2:Pu P (u δ) q):Pu P (orT t u δ) (p||q):=h1.bind (by
 cases p
 .rw[if_neg Bool.false_ne_true];exact h2
 .exact Pu.pure)
theorem Rm (h1:Pu P (t δ) p) (h2:Pu P (u δ) q):Pu P (Acv t u δ) (p&&q):=h1.bind (by
 cases p
 .exact Pu.pure
 .rw[if_pos rfl];exact h2)
theorem Ac5 (h1:Pu P (f δ) (.bl p)) (h2:Pu P (g δ) (.bl q)):Pu P (Ff f g δ) (.bl (p&&q)):=Bbw h1 fun _=>h2
theorem Ul:Pu P (Jx .Lt (.int i) (.int j)) (.bl (decide (i < j))):=Pu.pure
theorem O9:Pu P (Jx .LtE (.int i) (.int j)) (.bl (decide (i<=j))):=Pu.pure
theorem R5:Pu P (Jx .Gt (.int i) (.int j)) (.bl (decide (j < i))):=Pu.pure
theorem Cr:Pu P (Bop.fn .add (.int i) (.int j)) (.int (i+j)):=Pu.pure
theorem Gn:Pu P (Bop.fn .sub (.int i) (.int j)) (.int (i - j)):=Pu.pure
theorem G8 {α:Type} [Decidable c] {m n:M α} {a:α} (hc:c) (h:Pu P m a):Pu P (if c then m else n) a:=by rw[if_pos hc];exact h
theorem Ca (hl:x.length+y.length<=big):Pu P (Bop.fn .add (.str x) (.str y)) (.str (x ++ y)):=G8 hl Pu.pure
theorem Ie (hs:(small i||small j)=true):Pu P (Bop.fn .mul (.int i) (.int j)) (.int (i * j)):=G8 hs Pu.pure
theorem Ahu (hj:0<=j):Pu P (Bop.fn .shr (.int i) (.int j)) (.int (i / 2 ^ j.toNat)):=G8 hj Pu.pure
theorem Al8:Pu P (Bop.fn .and (.int i) (.int j)) (.int (Builtin.bitAnd i j)):=Pu.pure
theorem Cd (hj:0 < j):Pu P (Bop.fn .mod (.int i) (.int j)) (.int (i % j)):=G8 hj Pu.pure
theorem Dm (h1:0 < j) (h2:j < 1073741824):Pu P (Bop.fn .fdiv (.int i) (.int j)) (.int (i / j)):=G8 (by rw[decide_eq_true h1,decide_eq_true h2];rfl) Pu.pure
theorem Be2 {k:Nat} (hk:k<=big):-(2 ^ 62)<=(k:Int)/\(k:Int) < 2 ^ 62:=by
 have h:(k:Int)<=1000000:=Int.ofNat_le.mpr hk;have h2:(0:Int)<=k:=Int.natCast_nonneg k;have e:(2:Int) ^ 62=4611686018427387904:=by decide +kernel
 rw[e];omega
theorem Aqr (hk:k<=big):Hw [.int (k:Int)]=pure (.fix ((List.range k).map fun(k:Nat)=>W.int ((0:Int)+(k:Int)))):=by
 unfold Hw;dsimp only;rw[if_pos (Be2 hk),toNat_natCast]
theorem Ig (h1:Pu P (gs δ) [.int (k:Int)]) (hk:k<=big):Pu P (Om Hw gs δ) (.fix ((List.range k).map fun(k:Nat)=>W.int ((0:Int)+(k:Int)))):=by
 refine Pu.bind h1 ?_;rw[Aqr hk];exact Pu.pure
theorem Ih:Pu P (Jx .Eq (.int i) (.int j)) (.bl (i==j)):=fun S _=>⟨[],by rw[append_nil];rfl⟩
theorem Aqs:Pu P (Jx .NotEq (.int i) (.int j)) (.bl (!(i==j))):=fun S _=>⟨[],by rw[append_nil];rfl⟩
theorem Bt (hx:PyData.strOk x=true) (hy:PyData.strOk y=true):Pu P (Jx .Eq (.str x) (.str y)) (.bl (x==y)):=Pu.pure
theorem Fo:Pu P (Jx .Eq (.str x) (.str y)) (.bl (x==y)):=Pu.pure
theorem Ac6:Pu P (Jx .NotEq (.str x) (.str y)) (.bl (!(x==y))):=Pu.pure
theorem Aqt:Pu P (Jx .Lt (.str x) (.str y)) (.bl (J4 x y)):=Pu.pure
theorem Pa {op op':CmpOp} {x y u:W} (h1:Pu P (f δ) x) (h2:Pu P (g δ) y) (h3:Pu P (Jx op x y) (.bl p)) (h4:Pu P (h δ) u) (h5:Pu P (Jx op' y u) (.bl q)):Pu P (Kp op op' f g h δ) (.bl (p&&q)):=by
 refine h1.bind (h2.bind (h3.bind ?_));cases p
 .exact Pu.pure
 .exact h4.bind h5
theorem Bh (h1:Pu P (f δ) o) (h2:Pu P (g δ) v) (h3:Pu P (ixW ns o v) w):Pu P (ixF ns f g δ) w:=h1.bind (h2.bind h3)
end
section
variable {P:SP} {b b':MS} {δ δ':De} {w:W} {c:Nat×W} {t:De->M Bool} {p:Bool}
theorem Dz (h1:Pu P (t δ) p) (hp:p=false) (h2:PuN P b' δ δ'):PuN P (ifS t b b') δ δ':=Bez (hp ▸ h1) h2
theorem Be3 (h1:Pu P (t δ) p) (hp:p=true) (h2:PuN P b δ δ'):PuN P (ifS t b b') δ δ':=Bey (hp ▸ h1) h2
theorem Nk (h1:Pu P (t δ) p) (hp:p=true) (h2:PuR P b δ w):PuR P (ifS t b b') δ w:=Be0 (hp ▸ h1) h2
theorem Av3 (h1:Pu P (t δ) p) (hp:p=true) (h2:PuE P b δ c):PuE P (ifS t b b') δ c:=Be1 (hp ▸ h1) h2
end
section
variable {P:SP} {δ cs:De} {f:De->M W} {ws:List W} {w:W} {ns:List Int} {op:List W->M W} {mop:W->List W->M W} {z:Str}
theorem Ajv (h:Pu P m ws) (hl:ws.length<=big):PuL P (m >>= Ce) ws:=fun S hS=>by
 obtain⟨G,e⟩:=h S hS;refine⟨G ++ [.lst ws],(S ++ G).length,?_,?_,by rw[length_append];omega⟩
 .rw[Br,e];dsimp only;unfold Ce;rw[if_pos hl,append_assoc]
 .rw[<-append_assoc,getElem?_append_right (le_refl _),sub_self];rfl
theorem Ae9 {α:Type} {m:M α} {a:α} {g:α->M W} (h:Pu P m a) (k:PuL P (g a) ws):PuL P (m >>= g) ws:=fun S hS=>by
 obtain⟨G,e⟩:=h S hS;obtain⟨G',n,e',hn,hf⟩:=k (S ++ G) (P.st _ _ hS);exact⟨G ++ G',n,by rw[Br,e];simp only[e',append_assoc],by rw[<-append_assoc];exact hn,by rw[length_append] at hf;omega⟩
theorem Fz {β:Type} {xs:List β} {φ ψ:β->W} {cap:List Nat} (h1:Pu P (src δ) (.fix (xs.map φ))) (hc:Oo 1 cap δ=none::cs) (hl:xs.length<=big)
  (he:∀x,x∈xs->Pu P (t (some (φ x)::cs)) true/\Pu P (e (some (φ x)::cs)) (ψ x)):PuL P (Df 1 cap src (Cu 0) t e δ) (xs.map ψ):=by
 refine Ae9 h1 ?_;show PuL P (Hx (Cu 0) t e (xs.map φ) (Oo 1 cap δ) [] >>= Ce) _;rw[hc];refine Ajv ?_ (by rw[length_map];exact hl)
 have:=Aqq he none [] (by simpa using hl)
 simpa using this
theorem Ac7 (h:PuL P (f δ) ws) (ho:∀(n:Nat) (S:Store),S[n]?=some (.lst ws)->∃G,op [.ref n] S=.ok w (S ++ G)):Pu P (Ae op (Aa f nilF) δ) w:=fun S hS=>by
 obtain⟨G,n,e,hn,_⟩:=h S hS;obtain⟨G',e'⟩:=ho n (S ++ G) hn;refine⟨G ++ G',?_⟩;unfold Ae Aa nilF;rw[Br,Br,e];dsimp only;rw[Br];show op [.ref n] (S ++ G)=_;rw[e',append_assoc]
theorem Ajw:∀bs:List Bool,Ex Auo (bs.map W.bl)=some bs
 |[]=>rfl
 |b::bs=>by rw[map_cons,Ex,Ajw bs];rfl
theorem Afa:∀bs:List Int,Ex asInt (bs.map W.int)=some bs
 |[]=>rfl
 |b::bs=>by rw[map_cons,Ex,Afa bs];rfl
theorem Afb:∀bs:List Str,Ex Aja (bs.map W.str)=some bs
 |[]=>rfl
 |b::bs=>by rw[map_cons,Ex,Afb bs];rfl
theorem Nm {bs:List Bool} (h:PuL P (f δ) (bs.map W.bl)):Pu P (Ae Ol (Aa f nilF) δ) (.bl (bs.all id)):=Ac7 h fun n S e=>⟨[],by
 simp only[Ol,e,Ajw,append_nil]⟩
theorem Aqu {is:List Int} (h:PuL P (f δ) (is.map W.int)):Pu P (Ae Acr (Aa f nilF) δ) (.int is.sum):=Ac7 h fun n S e=>⟨[],by
 simp only[Acr,e,Afa,append_nil]⟩
theorem Av4 (h:PuL P (f δ) (ys.map W.str)) (hl:(ys.map (·.length)).sum+ys.length * z.length<=big):Pu P (Jc .str Ko (kF (.str z)) (Aa f nilF) δ) (.str (Txt.join z ys)):=fun S hS=>by
 obtain⟨G,n,e,hn,_⟩:=h S hS;refine⟨G,?_⟩;have e2:Aa f nilF δ S=.ok [.ref n] (S ++ G):=by unfold Aa nilF;rw[Br,e];rfl
 have e3:Jc .str Ko (kF (.str z)) (Aa f nilF) δ S=(Aa f nilF δ >>= fun ws=>Ko (.str z) ws) S:=rfl;rw[e3,Br,e2];simp only[Ko,hn,Afb];exact if_pos hl
theorem Ajx (hz:z.length<=big) (h:Pu P (f δ) (.str z)):Pu P (Eh ns f δ) (.fix (chars z)):=h.bind (G8 hz Pu.pure)
theorem Gp (h:Pu P (f δ) (.tup ws)):Pu P (Eh ns f δ) (.fix ws):=h.bind Pu.pure
end
structure Yx {β:Type} (s:Tg) (xs:List β) (φ:β->W) (Kd:De->Prop) (dx:β->De):Prop where
 set:∀x,x∈xs->∀δ,Kd δ->s (φ x) δ=some (dx x)
 kd:∀x,x∈xs->Kd (dx x)
def Al9 (P:SP) {β:Type} (t:De->M Bool) (e:De->M W) (xs:List β) (dx:β->De) (τ:β->Bool) (ψ:β->W):Prop:=∀x,x∈xs->Pu P (t (dx x)) (τ x)/\(τ x=true->Pu P (e (dx x)) (ψ x))
section
variable {β:Type} {xs:List β} {φ ψ:β->W} {dx:β->De} {τ:β->Bool}
theorem Ajy:Yx (Cu 0) xs φ (fun δ=>∃d,δ=d::cs) (fun x=>some (φ x)::cs):=⟨fun x _ δ ⟨d,h⟩=>by subst h;rfl,fun x _=>⟨_,rfl⟩⟩
theorem Ahv {a b:β->W}:Yx (W9 [0,1]) xs (fun x=>.tup [a x,b x]) (fun δ=>∃d d',δ=d::d'::cs) (fun x=>some (a x)::some (b x)::cs):=⟨fun x _ δ ⟨d,d',h⟩=>by subst h;rfl,fun x _=>⟨_,_,rfl⟩⟩
theorem Yx.tail {x:β} (h:Yx s (x::xs) φ Kd dx):Yx s xs φ Kd dx:=⟨fun y hy=>h.set y (mem_cons_of_mem _ hy),fun y hy=>h.kd y (mem_cons_of_mem _ hy)⟩
theorem Av5 {P:SP} {t:De->M Bool} {e:De->M W} {x:β} {acc:List W} {k:List W->M (List W)} {r:List W} (h:Pu P (t (dx x)) (τ x)/\(τ x=true->Pu P (e (dx x)) (ψ x))) (hb:acc.length < big) (hk:Pu P (k (acc ++ ([x].filter τ).map ψ)) r) :
  Pu P (noX (t (dx x)) >>= fun b=>if b=true then noX (e (dx x)) >>= fun y=>if acc.length < big then k (acc ++ [y]) else bad else k acc) r:=by
 refine(O8 h.1).bind ?_;cases ht:τ x with
 |false=>
  rw[if_neg Bool.false_ne_true];have:acc ++ ([x].filter τ).map ψ=acc:=by simp[ht]
  rw[this] at hk;exact hk
 |true=>
  rw[if_pos rfl];refine(O8 (h.2 ht)).bind ?_;rw[if_pos hb];have:acc ++ ([x].filter τ).map ψ=acc ++ [ψ x]:=by simp[ht]
  rw[this] at hk;exact hk
theorem Ama {x:β}:acc ++ ([x].filter τ).map ψ ++ (xs.filter τ).map ψ=acc ++ ((x::xs).filter τ).map ψ:=by
 cases ht:τ x <;> simp[ht]
theorem Aqv {x:β}:(acc ++ ([x].filter τ).map ψ).length<=acc.length+1:=by
 cases ht:τ x <;> simp[ht]
theorem Ac8 (hs:Yx s xs φ Kd dx) (he:Al9 P t e xs dx τ ψ):∀(δ:De) (acc:List W),Kd δ->acc.length+xs.length<=big->Pu P (Hx s t e (xs.map φ) δ acc) (acc ++ (xs.filter τ).map ψ):=by
 induction xs with
 |nil=>intro δ acc _ _;simpa [Hx] using (Pu.pure (a:=acc))
 |cons x xs ih=>
  intro δ acc hd hl;rw[length_cons] at hl;have hx:=he x mem_cons_self;have hk:=ih hs.tail (fun y hy=>he y (mem_cons_of_mem _ hy)) (dx x) (acc ++ ([x].filter τ).map ψ) (hs.kd x mem_cons_self) (by have:=Aqv (τ:=τ) (ψ:=ψ) (x:=x) (acc:=acc);omega)
  rw[Ama] at hk;rw[map_cons];unfold Hx;rw[hs.set x mem_cons_self δ hd];exact Av5 (k:=fun a=>Hx s t e (xs.map φ) (dx x) a) hx (by omega) hk
theorem Ac9 {n:Nat} (hs:Yx s xs φ Kd dx) (he:Al9 P t e xs dx τ ψ):∀(m i:Nat) (δ:De) (acc:List W) (S:Store),S[n]?=some (.lst (xs.map φ))->P.p S->i+m=xs.length+1->i<=xs.length->Kd δ->acc.length+(xs.length - i)<=big->
  ∃G,Gs s t e n m i δ acc S=.ok (acc ++ ((xs.drop i).filter τ).map ψ) (S ++ G):=by
 intro m;induction m with
 |zero=>intro i δ acc S hn hS hi h2 hd hl;omega
 |succ m ih=>
  intro i δ acc S hn hS hi h2 hd hl;unfold Gs;simp only[hn];by_cases hx:i < xs.length
  .have hg:(xs.map φ)[i]?=some (φ xs[i]):=by rw[getElem?_map,getElem?_eq_getElem hx];rfl
   simp only[hg];have hm:xs[i]∈xs:=getElem_mem hx;rw[hs.set _ hm δ hd];dsimp only;have hb:acc.length < big:=by omega
   obtain⟨G1,e1⟩:=O8 (he _ hm).1 S hS;rw[Br,e1];dsimp only;have dr:xs.drop i=xs[i]::xs.drop (i+1):=(drop_eq_getElem_cons hx);cases ht:τ xs[i] with
   |false=>
    rw[if_neg Bool.false_ne_true];obtain⟨G,e2⟩:=ih (i+1) (dx xs[i]) acc (S ++ G1) (by rw[getElem?_append_left (List.getElem?_eq_some_iff.mp hn).1];exact hn) (P.st _ _ hS) (by omega) (by omega) (hs.kd _ hm) (by omega)
    refine⟨G1 ++ G,?_⟩;rw[e2,dr,filter_cons,ht,append_assoc];rfl
   |true=>
    rw[if_pos rfl];obtain⟨G2,e2⟩:=O8 ((he _ hm).2 ht) (S ++ G1) (P.st _ _ hS);rw[Br,e2];dsimp only;rw[if_pos hb];obtain⟨G,e3⟩:=ih (i+1) (dx xs[i]) (acc ++ [ψ xs[i]]) (S ++ G1 ++ G2) (by rw[append_assoc,getElem?_append_left (List.getElem?_eq_some_iff.mp hn).1];exact hn) (P.st _ _ (P.st _ _ hS)) (by omega) (by omega) (hs.kd _ hm) (by rw[length_append,length_singleton];omega)
    refine⟨G1 ++ (G2 ++ G),?_⟩;rw[e3,dr,filter_cons,ht];simp[append_assoc]
  .have hg:(xs.map φ)[i]?=none:=by rw[List.getElem?_eq_none_iff,length_map];omega
   simp only[hg];refine⟨[],?_⟩;rw[drop_eq_nil_of_le (by omega)]
   simp
theorem Ahw {gt:Store->Nat->Option (Option W)} (hs:Yx s xs φ Kd dx) (he:Al9 P t e xs dx τ ψ):∀(m i:Nat) (δ:De) (acc:List W) (S:Store),(∀(G:Store) (j:Nat),gt (S ++ G) j=some (xs[j]?.map φ))->P.p S->xs.length+1<=i+m->i<=xs.length->Kd δ->acc.length+(xs.length - i)<=big->
  ∃G,J5 s t e gt m i δ acc S=.ok (acc ++ ((xs.drop i).filter τ).map ψ) (S ++ G):=by
 intro m;induction m with
 |zero=>intro i δ acc S hn hS hi h2 hd hl;omega
 |succ m ih=>
  intro i δ acc S hn hS hi h2 hd hl;unfold J5;have hn0:=hn [] i;rw[append_nil] at hn0;by_cases hx:i < xs.length
  .have hg:gt S i=some (some (φ xs[i])):=by rw[hn0,getElem?_eq_getElem hx];rfl
   simp only[hg];have hm:xs[i]∈xs:=getElem_mem hx;rw[hs.set _ hm δ hd];dsimp only;have hb:acc.length < big:=by omega
   obtain⟨G1,e1⟩:=O8 (he _ hm).1 S hS;rw[Br,e1];dsimp only;have dr:xs.drop i=xs[i]::xs.drop (i+1):=(drop_eq_getElem_cons hx);cases ht:τ xs[i] with
   |false=>
    rw[if_neg Bool.false_ne_true];obtain⟨G,e2⟩:=ih (i+1) (dx xs[i]) acc (S ++ G1) (fun G j=>by rw[append_assoc];exact hn _ j) (P.st _ _ hS) (by omega) (by omega) (hs.kd _ hm) (by omega)
    refine⟨G1 ++ G,?_⟩;rw[e2,dr,filter_cons,ht,append_assoc];rfl
   |true=>
    rw[if_pos rfl];obtain⟨G2,e2⟩:=O8 ((he _ hm).2 ht) (S ++ G1) (P.st _ _ hS);rw[Br,e2];dsimp only;rw[if_pos hb];obtain⟨G,e3⟩:=ih (i+1) (dx xs[i]) (acc ++ [ψ xs[i]]) (S ++ G1 ++ G2) (fun G j=>by rw[append_assoc,append_assoc];exact hn _ j) (P.st _ _ (P.st _ _ hS)) (by omega) (by omega) (hs.kd _ hm) (by rw[length_append,length_singleton];omega)
    refine⟨G1 ++ (G2 ++ G),?_⟩;rw[e3,dr,filter_cons,ht];simp[append_assoc]
  .have hg:gt S i=some none:=by rw[hn0,List.getElem?_eq_none (by omega)];rfl
   simp only[hg];refine⟨[],?_⟩;rw[drop_eq_nil_of_le (by omega)]
   simp
end
section
variable {β:Type} {xs:List β} {φ ψ:β->W} {dx:β->De} {τ:β->Bool} {k:Nat} {cap:List Nat} {n:Nat}
theorem Aqw (h:m S=.ok ws (S ++ G)) (hl:ws.length<=big):∃(G':Store) (n:Nat),(m >>= Ce) S=.ok (.ref n) (S ++ G')/\AtL n ws (S ++ G')/\S.length<=n:=by
 refine⟨G ++ [.lst ws],(S ++ G).length,?_,?_,by rw[length_append];omega⟩
 .rw[Br,h];dsimp only;unfold Ce;rw[if_pos hl,append_assoc]
 .unfold AtL;rw[<-append_assoc,getElem?_append_right (le_refl _),sub_self];rfl
theorem Ajz (h1:Pu P (src δ) (.fix (xs.map φ))) (hs:Yx s xs φ Kd dx) (he:Al9 P t e xs dx τ ψ) (hk:Kd (Oo k cap δ)) (hl:xs.length<=big):PuL P (Df k cap src s t e δ) ((xs.filter τ).map ψ):=by
 refine Ae9 h1 ?_;refine Ajv (m:=Hx s t e (xs.map φ) (Oo k cap δ) []) ?_ (by rw[length_map];exact le_trans (List.length_filter_le _ _) hl)
 have:=Ac8 hs he (Oo k cap δ) [] hk (by simpa using hl)
 simpa using this
theorem Aj0 (h0:∀S,P.p S->AtL n (xs.map φ) S) (h1:Pu P (src δ) (.liv n)) (hs:Yx s xs φ Kd dx) (he:Al9 P t e xs dx τ ψ) (hk:Kd (Oo k cap δ)) (hl:xs.length<=big):PuL P (Df k cap src s t e δ) ((xs.filter τ).map ψ):=fun S hS=>by
 obtain⟨G,e1⟩:=h1 S hS;have hS1:=(h0 S hS).app G;obtain⟨G2,e2⟩:=Ac9 (n:=n) hs he (xs.length+1) 0 (Oo k cap δ) [] (S ++ G) hS1 (P.st _ _ hS) (by omega) (by omega) hk (by simpa using hl)
 rw[nil_append,drop_zero] at e2;obtain⟨G',n',e3,h3,h4⟩:=Aqw e2 (by rw[length_map];exact le_trans (List.length_filter_le _ _) hl)
 refine⟨G ++ G',n',?_,by rw[<-append_assoc];exact h3,by rw[length_append] at h4;omega⟩
 unfold Df;rw[Br,e1];dsimp only;unfold AtL at hS1;rw[hS1];dsimp only;rw[length_map,e3,append_assoc]
theorem Av6 (h1:∀S,P.p S->∃G n m,src δ S=.ok (.zl n m) (S ++ G)/\AtL n us (S ++ G)/\AtL m vs (S ++ G)) (hx:∀j:Nat,xs[j]?.map φ=match us[j]?,vs[j]? with|some a,some b=>some (.tup [a,b])|_,_=>none) (hu:xs.length<=us.length)
  (hs:Yx s xs φ Kd dx) (he:Al9 P t e xs dx τ ψ) (hk:Kd (Oo k cap δ)) (hl:xs.length<=big):PuL P (Df k cap src s t e δ) ((xs.filter τ).map ψ):=fun S hS=>by
 obtain⟨G,n,m,e1,a1,a2⟩:=h1 S hS;obtain⟨G2,e2⟩:=Ahw (gt:=zlG n m) hs he (us.length+1) 0 (Oo k cap δ) [] (S ++ G) (fun G' j=>by
  have b1:=a1.app G';have b2:=a2.app G';unfold AtL at b1 b2;unfold zlG;rw[b1,b2];dsimp only;rw[hx j];cases us[j]? <;> cases vs[j]? <;> rfl) (P.st _ _ hS) (by omega) (by omega) hk (by simpa using hl)
 rw[nil_append,drop_zero] at e2;obtain⟨G',n',e3,h3,h4⟩:=Aqw e2 (by rw[length_map];exact le_trans (List.length_filter_le _ _) hl)
 refine⟨G ++ G',n',?_,by rw[<-append_assoc];exact h3,by rw[length_append] at h4;omega⟩
 unfold Df;rw[Br,e1];dsimp only;unfold AtL at a1;rw[a1];dsimp only;rw[e3,append_assoc]
end
section
variable {i k n:Nat}
theorem Aj1 {ns:List Int} (h0:∀S,P.p S->AtL n ws S) (h:Pu P (f δ) (.ref n)):Pu P (Eh ns f δ) (.liv n):=fun S hS=>by
 obtain⟨G,e⟩:=h S hS;refine⟨G,?_⟩;have a:=(h0 S hS).app G;unfold AtL at a;unfold Eh;rw[Br,e];show (match (S ++ G)[n]? with|some (.lst _)=>R.ok (Src.liv n) (S ++ G)|_=>.bad)=_
 rw[a]
end
def Wm {α:Type} (m:M α) (S:Store) (Q:α->Store->Prop):Prop:=∃(a:α) (S':Store),m S=.ok a S'/\Q a S'
structure Wb (b:MS) (δ:De) (S:Store) (K:RS->Prop):Prop where
 un:K (b δ S)
structure Fr (L:List Nat) (S S':Store):Prop where
 len:S.length<=S'.length
 get:∀i,i < S.length->i∉L->S'[i]?=S[i]?
section
variable {L L':List Nat} {S S1 S2 G:Store} {i n:Nat} {c:Cell}
theorem Fr.app:Fr [] S (S ++ G):=⟨by rw[length_append];omega,fun i hi _=>getElem?_append_left hi⟩
theorem Fr.set:Fr [n] S (S.set n c):=⟨by rw[length_set];exact le_refl _,fun i _ hi=>getElem?_set_ne (fun e=>hi (by rw[e];exact mem_singleton.mpr rfl))⟩
theorem Fr.trans (h1:Fr L S S1) (h2:Fr L' S1 S2) (hL:∀i∈L',i∈L\/S.length<=i):Fr L S S2:=⟨le_trans h1.len h2.len,fun i hi hn=>by
 rw[h2.get i (lt_of_lt_of_le hi h1.len) (fun hm=>(hL i hm).elim hn (fun z=>absurd hi (Nat.not_lt.mpr z))),h1.get i hi hn]⟩
theorem Fr.then0 (h1:Fr L S S1) (h2:Fr [] S1 S2):Fr L S S2:=h1.trans h2 fun _ h=>(nomatch h)
theorem Fr.same (h1:Fr L S S1) (h2:Fr L S1 S2):Fr L S S2:=h1.trans h2 fun _ h=>.inl h
theorem Fr.mono (h:Fr L S S1) (hL:∀i∈L,i∈L'):Fr L' S S1:=⟨h.len,fun i hi hn=>h.get i hi (fun z=>hn (hL i z))⟩
theorem Fr.of0 (h:Fr [] S S1):Fr L S S1:=h.mono fun _ h=>(nomatch h)
theorem Fr.at (h:Fr L S S1) (e:S[i]?=some c) (hi:i∉L):S1[i]?=some c:=(h.get i (List.getElem?_eq_some_iff.mp e).1 hi).trans e
theorem Fr.at0 (h:Fr [] S S1) (e:S[i]?=some c):S1[i]?=some c:=h.at e (fun z=>nomatch z)
theorem Fr.at1 (h:Fr [n] S S1) (e:S[i]?=some c) (hi:i≠n):S1[i]?=some c:=h.at e (fun z=>hi (mem_singleton.mp z))
theorem Ek (e:S[i]?=some c):i < S.length:=(List.getElem?_eq_some_iff.mp e).1
theorem Pb (h:i < S.length):(S.set i c)[i]?=some c:=getElem?_set_self h
end
section
variable {α β:Type} {m:M α} {f:α->M β} {a:α} {S:Store} {Q Q2:α->Store->Prop} {Q':β->Store->Prop} {P:SP} {δ:De} {ws us:List W}
theorem Dc (h:Wm m S fun a S'=>Wm (f a) S' Q'):Wm (m >>= f) S Q':=by
 obtain⟨a,S1,e,b,S2,e2,q⟩:=h;exact⟨b,S2,by rw[Br,e];exact e2,q⟩
theorem Ju (q:Q a S):Wm (pure a) S Q:=⟨a,S,rfl,q⟩
theorem Oi (h:Pu P m a) (hS:P.p S) (k:∀S',Fr [] S S'->Q a S'):Wm m S Q:=by
 obtain⟨G,e⟩:=h S hS;exact⟨a,_,e,k _ .app⟩
theorem Be (h:Pu SP.any m a) (k:∀S',Fr [] S S'->Q a S'):Wm m S Q:=Oi h trivial k
theorem Dr (h:Wm m S Q) (k:∀a S',Q a S'->Q2 a S'):Wm m S Q2:=by
 obtain⟨a,S',e,q⟩:=h;exact⟨a,S',e,k a S' q⟩
theorem Bby {m:M W} {Q:W->Store->Prop} (h:PuL P m ws) (hS:P.p S) (k:∀n S',Fr [] S S'->S'[n]?=some (.lst ws)->S.length<=n->Q (.ref n) S'):Wm m S Q:=by
 obtain⟨G,n,e,hn,hf⟩:=h S hS;exact⟨_,_,e,k n _ .app hn hf⟩
theorem Ada (h:Wm m S Q):Wm (noX m) S Q:=by
 obtain⟨a,S',e,q⟩:=h;exact⟨a,S',by unfold noX;rw[e],q⟩
theorem Ey {s:List W->M W} {gs:De->M (List W)} {Q:W->Store->Prop} (h:Wm (gs δ) S fun ws S'=>Wm (s ws) S' Q):Wm (Ae s gs δ) S Q:=Dc h
theorem Az {g:De->M W} {gs:De->M (List W)} {Q:List W->Store->Prop} (h:Wm (g δ) S fun w S'=>Wm (gs δ) S' fun ws S2=>Q (w::ws) S2):Wm (Aa g gs δ) S Q:=
 Dc (Dr h fun _ _ h=>Dc (Dr h fun _ _ q=>Ju q))
theorem Do {Q:List W->Store->Prop} (q:Q [] S):Wm (nilF δ) S Q:=Ju q
theorem Ez {i:Nat} {w:W} {Q:W->Store->Prop} (e:δ[i]?=some (some w)) (q:Q w S):Wm (Ac i δ) S Q:=⟨w,S,by unfold Ac;rw[e];rfl,q⟩
theorem Ib {w:W} {Q:W->Store->Prop} (q:Q w S):Wm (kF w δ) S Q:=Ju q
theorem Jm {o:Bop} {f g:De->M W} {Q:W->Store->Prop} (h:Wm (f δ) S fun x S1=>Wm (g δ) S1 fun y S2=>Wm (o.fn x y) S2 Q):Wm (Ao o f g δ) S Q:=Dc (Dr h fun _ _ h=>Dc h)
theorem Aqx {o:CmpOp} {f g:De->M W} {Q:W->Store->Prop} (h:Wm (f δ) S fun x S1=>Wm (g δ) S1 fun y S2=>Wm (Jx o x y) S2 Q):Wm (Bf o f g δ) S Q:=Dc (Dr h fun _ _ h=>Dc h)
theorem Aqy {ns:List Int} {f g:De->M W} {Q:W->Store->Prop} (h:Wm (f δ) S fun x S1=>Wm (g δ) S1 fun y S2=>Wm (ixW ns x y) S2 Q):Wm (ixF ns f g δ) S Q:=Dc (Dr h fun _ _ h=>Dc h)
theorem Aj2 {f:De->M W} {Q:Bool->Store->Prop} {p:Bool} (h:Wm (f δ) S fun x S1=>x=.bl p/\Q p S1):Wm (Ay f δ) S Q:=Dc (Dr h fun _ _ ⟨e,q⟩=>by subst e;exact Ju q)
theorem Adb {gs:De->M (List W)} {Q:W->Store->Prop} (h:Wm (gs δ) S fun ws S1=>ws.length<=big/\Q (.ref S1.length) (S1 ++ [.lst ws])):Wm (Oj gs δ) S Q:=Dc (Dr h fun ws S1 ⟨hl,q⟩=>⟨_,_,by unfold Ce;rw[if_pos hl],q⟩)
theorem Kr {gs:De->M (List W)} {Q:W->Store->Prop} (h:Wm (gs δ) S fun ws S1=>ws.length<=big/\Q (.tup ws) S1):Wm (Jk gs δ) S Q:=Dc (Dr h fun ws S1 ⟨hl,q⟩=>⟨_,_,by unfold Acn;rw[if_pos hl];rfl,q⟩)
theorem Abb {Q:W->Store->Prop} (hl:ws.length<=big) (q:Q (.ref S.length) (S ++ [.lst ws])):Wm (Ce ws) S Q:=⟨_,_,by unfold Ce;rw[if_pos hl],q⟩
theorem J2:(S ++ [c])[S.length]?=some c:=by rw[getElem?_append_right (le_refl _),sub_self];rfl
theorem Ahx {ns:List Int} {n:Nat} {i:Int} {w:W} {Q:W->Store->Prop} (hn:S[n]?=some (.lst ws)) (hi:atI ws i=some w) (q:Q w S):Wm (ixW ns (.ref n) (.int i)) S Q:=⟨w,S,by
 unfold ixW;dsimp only;rw[hn];dsimp only;rw[hi];rfl,q⟩
theorem Av7 {ns:List Int} {n:Nat} {Q:W->Store->Prop} (hn:S[n]?=some (.lst ws)) (q:Q (.int ws.length) S):Wm (Dd ns [.ref n]) S Q:=⟨_,S,by
 unfold Dd;dsimp only;rw[hn],q⟩
theorem Vk {ns:List Int} {n:Nat} {Q:W->Store->Prop} (hn:S[n]?=some (.lst ws)) (q:Q (.tup ws) S):Wm (Et ns [.ref n]) S Q:=⟨_,S,by
 unfold Et;dsimp only;rw[hn],q⟩
theorem Av8 {op:W->List W->M W} {f:De->M W} {gs:De->M (List W)} {n:Nat} {Q:W->Store->Prop} (h1:Pu P (f δ) (.ref n)) (hS:P.p S) (hn:S[n]?=some (.lst ws)) (h2:∀S',Fr [] S S'->Wm (gs δ) S' fun us S2=>Wm (op (.ref n) us) S2 Q):Wm (Jc .lst op f gs δ) S Q:=by
 refine Dc (Oi h1 hS fun S1 f1=>?_);refine Dc (m:=(fun S=>if Ty.lst.is (.ref n) S then .ok () S else .bad:M Unit)) ⟨(),S1,?_,Dc (h2 S1 f1)⟩
 have e:Ty.lst.is (.ref n) S1=true:=by
  simp only[Ty.is,f1.at0 hn]
 exact if_pos e
theorem Aqz {n j:Nat} {i:Int} {w:W} {Q:W->Store->Prop} (hn:S[n]?=some (.lst ws)) (hl:ws.length<=big) (hj:ixN ws.length i=some j) (hw:ws[j]?=some w) (q:Q w (S.set n (.lst (ws.eraseIdx j)))):Wm (Ng (.ref n) [.int i]) S Q:=⟨_,_,by
 unfold Ng Ajc putL;dsimp only;rw[hn];dsimp only;rw[if_pos hl,hj];dsimp only;rw[hw];dsimp only;rw[if_pos (le_trans (by rw[length_eraseIdx];split <;> omega) hl)],q⟩
end
section
variable {b b' b2:MS} {δ δ':De} {S:Store} {K:RS->Prop} {f:De->M W} {t:De->M Bool} {i k n:Nat} {P:SP} {ws:List W} {p:Bool}
def Hk (b':MS) (K:RS->Prop):RS->Prop
 |.nx δ1 S1=>Wb b' δ1 S1 K
 |r=>K r
theorem Np (h:Wb b δ S (Hk b' K)):Wb (Aj b b') δ S K:=⟨by
 have h:=h.un;unfold Aj;revert h;cases b δ S with
 |nx δ1 S1=>exact fun h=>h.un
 |_=>exact fun h=>h⟩
theorem Kc {α:Type} {m:M α} {k:α->MS} (h:Wm m S fun a S'=>K (k a δ S')):K (Fg m k δ S):=by
 obtain⟨a,S',e,q⟩:=h;unfold Fg;rw[e];exact q
theorem Cj (h:Wm (f δ) S fun w S'=>Wb b' (δ.set i (some w)) S' K):Wb (Aj (Bo i f) b') δ S K:=Np ⟨Kc (K:=Hk b' K) h⟩
theorem Aj3 (h:Wm (f δ) S fun _ S'=>Wb b' δ S' K):Wb (Aj (Rz f) b') δ S K:=Np ⟨Kc (K:=Hk b' K) h⟩
theorem Gd (h:Wm (f δ) S fun w S'=>K (.rt w S')):Wb (Aj (retS f) b') δ S K:=Np ⟨Kc (K:=Hk b' K) h⟩
theorem Gy (h:K (.nx δ S)):Wb Am δ S K:=⟨h⟩
theorem Adc (h:Wm (t δ) S fun p S'=>Wb (if p then b else b2) δ S' (Hk b' K)):Wb (Aj (ifS t b b2) b') δ S K:=Np ⟨Kc (K:=Hk b' K) (Dr h fun p S' q=>by cases p <;> exact q.un)⟩
theorem J3 (h:Wm (t δ) S fun p S'=>p=true/\Wb b δ S' (Hk b' K)):Wb (Aj (ifS t b b2) b') δ S K:=Adc (Dr h fun p S' ⟨e,q⟩=>by subst e;exact q)
theorem Gu (h:Wm (t δ) S fun p S'=>p=false/\Wb b' δ S' K):Wb (Aj (ifS t b Am) b') δ S K:=Adc (Dr h fun p S' ⟨e,q⟩=>by subst e;exact⟨q⟩)
theorem Aq0 (h:Wm (t δ) S fun p S'=>p=false/\Wb b2 δ S' (Hk b' K)):Wb (Aj (ifS t b b2) b') δ S K:=Adc (Dr h fun p S' ⟨e,q⟩=>by subst e;exact q)
theorem Av9 {d:Nat} (h1:Pu P (h δ) v) (h2:Pu P (f δ) (.ref d)) (h3:Pu P (g δ) kw) (hS:P.p S) (hd:S[d]?=some (.dct kvs)) (hk:Aaf kw=some kk) (hl:kvs.length < big)
  (q:∀S',Fr [] S S'->Wb b' δ (S'.set d (.dct (R0 kvs kk v))) K):Wb (Aj (Yp f g h) b') δ S K:=by
 obtain⟨G1,e1⟩:=h1 S hS;obtain⟨G2,e2⟩:=h2 (S ++ G1) (P.st _ _ hS);obtain⟨G3,e3⟩:=h3 (S ++ G1 ++ G2) (P.st _ _ (P.st _ _ hS));have f3:Fr [] S (S ++ G1 ++ G2 ++ G3):=(Fr.app.then0 Fr.app).then0 Fr.app;refine Np ⟨?_⟩;refine Kc (K:=Hk b' K) ⟨(),(S ++ G1 ++ G2 ++ G3).set d (.dct (R0 kvs kk v)),?_,q _ f3⟩;rw[Br,e1];dsimp only;rw[Br,e2];dsimp only;rw[Br,e3];dsimp only;unfold Aa7;dsimp only;rw[f3.at0 hd];dsimp only;rw[hk];dsimp only;rw[if_pos hl]
def Aah (Q:W->Store->Prop):RS->Prop
 |.rt w S'=>Q w S'
 |.nx _ S'=>Q .non S'
 |_=>False
theorem Ks (hl:ws.length=k) (h:Wb b (Bw n ws) S (Aah Q)):Wm (Ck k n b ws) S Q:=by
 have h:=h.un;unfold Wm Ck;rw[if_pos hl];revert h;cases b (Bw n ws) S with
 |nx δ S'=>exact fun h=>⟨_,_,rfl,h⟩
 |rt w S'=>exact fun h=>⟨_,_,rfl,h⟩
 |bk _ _=>exact fun h=>h.elim
 |ct _ _=>exact fun h=>h.elim
 |ex _ _ _=>exact fun h=>h.elim
 |bad=>exact fun h=>h.elim
theorem Abd (h:∀w T,Q1 w T->Q2 w T):∀r,Aah Q1 r->Aah Q2 r
 |.rt w S',z=>h w S' z
 |.nx _ S',z=>h .non S' z
 |.bk _ _,z=>z
 |.ct _ _,z=>z
 |.ex _ _ _,z=>z
 |.bad,z=>z
theorem Ahy (h:∀r,K r->K' r):∀r,Hk b' K r->Hk b' K' r
 |.nx _ _,z=>⟨h _ z.un⟩
 |.rt _ _,z=>h _ z
 |.bk _ _,z=>h _ z
 |.ct _ _,z=>h _ z
 |.ex _ _ _,z=>h _ z
 |.bad,z=>h _ z
theorem Aj4 (h:Wb b δ S (Hk b' (Aah Q1))) (k:∀w T,Q1 w T->Q2 w T):Wb b δ S (Hk b' (Aah Q2)):=⟨Ahy (Abd k) _ h.un⟩
theorem Aq1 (h:Wb b δ S (Aah Q1)) (k:∀w T,Q1 w T->Q2 w T):Wb b δ S (Aah Q2):=⟨Abd k _ h.un⟩
def Aj5 (J:De->Store->Prop) (K:RS->Prop):RS->Prop
 |.nx δ S=>J δ S
 |.ct δ S=>J δ S
 |.bk δ S=>K (.nx δ S)
 |r=>K r
theorem Aj6 {J:Nat->De->Store->Prop} (step:∀(i:Nat) (w:W) (δ:De) (S:Store),ws[i]?=some w->J i δ S->∃δ1,s w δ=some δ1/\Wb b δ1 S (Aj5 (J (i+1)) K))
  (fin:∀δ S,J ws.length δ S->K (.nx δ S)) (h0:J 0 δ S):Wb (Ly s b ws) δ S K:=by
 have key:∀(us:List W) (i:Nat) (δ:De) (S:Store),ws.drop i=us->J i δ S->i<=ws.length->Wb (Ly s b us) δ S K:=by
  intro us;induction us with
  |nil=>
   intro i δ S hd hJ hi;have:i=ws.length:=by
    have:=List.drop_eq_nil_iff.mp hd;omega
   subst this;exact⟨fin δ S hJ⟩
  |cons w us ih=>
   intro i δ S hd hJ hi;have hlt:i < ws.length:=by
    rcases Nat.lt_or_ge i ws.length with h|h
    .exact h
    .rw[drop_eq_nil_of_le h] at hd;cases hd
   have hc:=drop_eq_getElem_cons hlt;rw[hd] at hc;have hw:ws[i]?=some w:=by rw[getElem?_eq_getElem hlt,(List.cons.inj hc).1]
   obtain⟨δ1,e1,hb⟩:=step i w δ S hw hJ;have hb:=hb.un;refine⟨?_⟩;unfold Ly;rw[e1];dsimp only;revert hb;cases b δ1 S with
   |nx δ2 S2=>exact fun hb=>(ih (i+1) δ2 S2 (List.cons.inj hc).2.symm hb hlt).un
   |ct δ2 S2=>exact fun hb=>(ih (i+1) δ2 S2 (List.cons.inj hc).2.symm hb hlt).un
   |bk δ2 S2=>exact fun hb=>hb
   |rt _ _=>exact fun hb=>hb
   |ex _ _ _=>exact fun hb=>hb
   |bad=>exact fun hb=>hb
 exact key ws 0 δ S rfl h0 (zero_le _)
theorem Aq2 (h1:Pu P (src δ) (.fix ws)) (hS:P.p S) (h2:∀S',Fr [] S S'->Wb (Ly s b ws) δ S' (Hk b' K)):Wb (Aj (Vh src s b) b') δ S K:=
 Np ⟨Kc (K:=Hk b' K) (Oi h1 hS fun S' f=>(h2 S' f).un)⟩
theorem Vl {J:Nat->De->Store->Prop} (step:∀(m:Nat) (δ:De) (S:Store),J m δ S->Wm (c δ) S fun p S'=>if p=true then Wb b δ S' (Aj5 (fun δ2 S2=>∃m',m' < m/\J m' δ2 S2) K) else K (.nx δ S')) :
  ∀(fuel m:Nat) (δ:De) (S:Store),J m δ S->m < fuel->Wb (Hs c b fuel) δ S K
 |0,m,_,_,_,h=>by omega
 |fuel+1,m,δ,S,hJ,hm=>by
  refine⟨?_⟩;unfold Hs;refine Kc (Dr (step m δ S hJ) fun p S' h=>?_);cases p with
  |false=>exact h
  |true=>
   have h:Wb b δ S' (Aj5 (fun δ2 S2=>∃m',m' < m/\J m' δ2 S2) K):=h;have h:=h.un;show K (match b δ S' with
    |.nx δ1 S1=>Hs c b fuel δ1 S1
    |.ct δ1 S1=>Hs c b fuel δ1 S1
    |.bk δ1 S1=>.nx δ1 S1
    |r=>r)
   revert h;cases b δ S' with
   |nx δ2 S2=>rintro⟨m',h1,h2⟩;exact(Vl step fuel m' δ2 S2 h2 (by omega)).un
   |ct δ2 S2=>rintro⟨m',h1,h2⟩;exact(Vl step fuel m' δ2 S2 h2 (by omega)).un
   |bk δ2 S2=>exact fun hb=>hb
   |rt _ _=>exact fun hb=>hb
   |ex _ _ _=>exact fun hb=>hb
   |bad=>exact fun hb=>hb
theorem Afc {J:Nat->De->Store->Prop} {fuel m:Nat} (h0:J m δ S) (hm:m < fuel) (step:∀(m:Nat) (δ:De) (S:Store),J m δ S->Wm (c δ) S fun p S'=>if p=true then Wb b δ S' (Aj5 (fun δ2 S2=>∃m',m' < m/\J m' δ2 S2) (Hk b' K)) else Wb b' δ S' K) :
  Wb (Aj (Hs c b fuel) b') δ S K:=Np (Vl (K:=Hk b' K) step fuel m δ S h0 hm)
theorem Yy {J:Nat->De->List W->Store->Prop}
  (step:∀(i:Nat) (w:W) (δ:De) (acc:List W) (S:Store),ws[i]?=some w->J i δ acc S->∃δ1,s w δ=some δ1/\Wm (t δ1) S fun p S1=>if p=true then Wm (e δ1) S1 fun y S2=>acc.length < big/\J (i+1) δ1 (acc ++ [y]) S2 else J (i+1) δ1 acc S1)
  (fin:∀δ acc S,J ws.length δ acc S->Q acc S) (h0:J 0 δ acc S):Wm (Hx s t e ws δ acc) S Q:=by
 have key:∀(us:List W) (i:Nat) (δ:De) (acc:List W) (S:Store),ws.drop i=us->J i δ acc S->i<=ws.length->Wm (Hx s t e us δ acc) S Q:=by
  intro us;induction us with
  |nil=>
   intro i δ acc S hd hJ hi;have:i=ws.length:=by
    have:=List.drop_eq_nil_iff.mp hd;omega
   subst this;exact Ju (fin δ acc S hJ)
  |cons w us ih=>
   intro i δ acc S hd hJ hi;have hlt:i < ws.length:=by
    rcases Nat.lt_or_ge i ws.length with h|h
    .exact h
    .rw[drop_eq_nil_of_le h] at hd;cases hd
   have hc:=drop_eq_getElem_cons hlt;rw[hd] at hc;have hw:ws[i]?=some w:=by rw[getElem?_eq_getElem hlt,(List.cons.inj hc).1]
   obtain⟨δ1,e1,hb⟩:=step i w δ acc S hw hJ;unfold Hx;rw[e1];dsimp only;refine Dc (Ada (Dr hb fun p S1 h=>?_));cases p with
   |false=>exact ih (i+1) δ1 acc S1 (List.cons.inj hc).2.symm h hlt
   |true=>
    refine Dc (Ada (Dr h fun y S2 ⟨hl,hJ2⟩=>?_));rw[if_pos hl];exact ih (i+1) δ1 (acc ++ [y]) S2 (List.cons.inj hc).2.symm hJ2 hlt
 exact key ws 0 δ acc S rfl h0 (zero_le _)
theorem Vm {J:Nat->De->List W->Store->Prop} {d:Nat} (there:∀i δ acc S,J i δ acc S->S[d]?=some (.lst ws))
  (step:∀(i:Nat) (w:W) (δ:De) (acc:List W) (S:Store),ws[i]?=some w->J i δ acc S->∃δ1,s w δ=some δ1/\Wm (t δ1) S fun p S1=>if p=true then Wm (e δ1) S1 fun y S2=>acc.length < big/\J (i+1) δ1 (acc ++ [y]) S2 else J (i+1) δ1 acc S1)
  (fin:∀δ acc S,J ws.length δ acc S->Q acc S):∀(fuel i:Nat) (δ:De) (acc:List W) (S:Store),J i δ acc S->i<=ws.length->ws.length < i+fuel->Wm (Gs s t e d fuel i δ acc) S Q
 |0,i,_,_,_,_,_,_=>by omega
 |fuel+1,i,δ,acc,S,hJ,hi,hf=>by
  have hd:=there i δ acc S hJ;show ∃a S',Gs s t e d (fuel+1) i δ acc S=.ok a S'/\Q a S';unfold Gs;rw[hd];dsimp only;by_cases hx:i < ws.length
  .have hw:ws[i]?=some ws[i]:=getElem?_eq_getElem hx;rw[hw];dsimp only;obtain⟨δ1,e1,hb⟩:=step i ws[i] δ acc S hw hJ;rw[e1];dsimp only;refine Dc (Ada (Dr hb fun p S1 h=>?_));cases p with
   |false=>exact Vm there step fin fuel (i+1) δ1 acc S1 h hx (by omega)
   |true=>
    refine Dc (Ada (Dr h fun y S2 ⟨hl,hJ2⟩=>?_));rw[if_pos hl];exact Vm there step fin fuel (i+1) δ1 (acc ++ [y]) S2 hJ2 hx (by omega)
  .have:i=ws.length:=by omega
   subst this;rw[List.getElem?_eq_none (le_refl _)];exact⟨_,_,rfl,fin δ acc S hJ⟩
theorem Ade {k:Nat} {cap:List Nat} (h1:Pu P (src δ) (.fix ws)) (hS:P.p S) (h2:∀S',Fr [] S S'->Wm (Hx s t e ws (Oo k cap δ) []) S' fun acc S2=>acc.length<=big/\Q (.ref S2.length) (S2 ++ [.lst acc])):Wm (Df k cap src s t e δ) S Q:=
 Dc (Oi h1 hS fun S' f=>Dc (Dr (h2 S' f) fun _ _ ⟨hl,q⟩=>Abb hl q))
theorem Aq3 {k d:Nat} {cap:List Nat} (h1:Pu P (src δ) (.liv d)) (hS:P.p S) (hd:S[d]?=some (.lst ws)) (h2:∀S',Fr [] S S'->Wm (Gs s t e d (ws.length+1) 0 (Oo k cap δ) []) S' fun acc S2=>acc.length<=big/\Q (.ref S2.length) (S2 ++ [.lst acc])):Wm (Df k cap src s t e δ) S Q:=by
 refine Dc (Oi h1 hS fun S' f=>?_);have h:=Dc (f:=Ce) (Dr (h2 S' f) fun _ _ ⟨hl,q⟩=>Abb hl q);obtain⟨a,S3,e3,q⟩:=h;refine⟨a,S3,?_,q⟩;show (match S'[d]? with|some (.lst ws)=>(Gs s t e d (ws.length+1) 0 (Oo k cap δ) [] >>= Ce) S'|_=>R.bad)=_
 rw[f.at0 hd];exact e3
end
end D
namespace M1
open PySem PySem.Builtin.Str
def sgs:Str:="0123456789abcdefghijklmnopqrstuvwxyzABCDEFGHIJKLMNOPQRSTUVWXYZ+-"
theorem Aq4:sgs.cps.toList=[48,49,50,51,52,53,54,55,56,57,97,98,99,100,101,102,103,104,105,106,107,108,109,110,111,112,113,114,115,116,117,118,119,120,121,122,65,66,67,68,69,70,71,72,73,74,75,76,77,78,79,80,81,82,83,84,85,86,87,88,89,90,43,45]:=by decide +kernel
theorem Um:sgs.cps.size=64:=by decide +kernel
theorem Ahz:sgs.length=64:=Um
theorem Amb:sgs.cps.toList.Nodup:=by rw[Aq4];decide
def sg (v:Nat):Nat:=sgs.cps.getD v 0
def one (c:Nat):Str:=⟨#[c]⟩
theorem Yz (c:Nat):(one c).length=1:=rfl
theorem Ah0 {v:Nat} (h:v < 64):sgs.cps.toList[v]?=some (sg v):=by
 have h':v < sgs.cps.size:=by rw[Um];exact h
 rw[getElem?_toList,Array.getElem?_eq_getElem h'];unfold sg;rw[Array.getD_eq_getD_getElem?,Array.getElem?_eq_getElem h'];rfl
theorem subAt_one {c i:Nat} (hi:i < x.cps.size) (h:subAt x (one c) i=true):x.cps[i]?=some c:=by
 unfold subAt at h;have e:x.cps.extract i (i+(one c).length)=(one c).cps:=eq_of_beq h;have e0:=congrArg (fun a:Array Nat=>a[0]?) e;rw[Array.getElem?_extract_of_lt (by rw[Yz];omega)] at e0
 rw[Array.getElem?_eq_getElem hi];exact congrArg some (by simpa [one] using e0)
def idx (c:Nat):Nat:=(occurrences sgs (one c) 0 sgs.length 1).headD 0
def inS (c:Nat):Bool:=!(occurrences sgs (one c) 0 sgs.length 1).isEmpty
theorem Afd {c:Nat} (h:inS c=true):∃rest,occurrences sgs (one c) 0 sgs.length 1=idx c::rest:=by
 unfold inS at h;unfold idx;cases e:occurrences sgs (one c) 0 sgs.length 1 with
 |nil=>rw[e] at h;cases h
 |cons i r=>exact⟨r,rfl⟩
theorem Afe {c:Nat} (h:inS c=true):idx c < 64/\sgs.cps[idx c]?=some c:=by
 obtain⟨r,e⟩:=Afd h;have q:=StrLaws.occ_spec sgs (one c) 0 sgs.length 1 (idx c) (by rw[e];exact mem_cons_self)
 rw[Yz,Ahz] at q;exact⟨by omega,subAt_one (by rw[Um];omega) q.2⟩
theorem Bbz {c:Nat} (h:inS c=true):idx c < 64:=(Afe h).1
theorem Aq5 {v:Nat} (h:v < 64):inS (sg v)=true:=by
 unfold inS one;rw[StrLaws.found_one];exact decide_eq_true (mem_of_getElem? (Ah0 h))
theorem Bb0 {v:Nat} (h:v < 64):idx (sg v)=v:=by
 obtain⟨h1,h2⟩:=Afe (Aq5 h);have h2':sgs.cps.toList[idx (sg v)]?=some (sg v):=by rw[getElem?_toList];exact h2
 have h3:=Ah0 h;obtain⟨l1,e1⟩:=List.getElem?_eq_some_iff.mp h2';obtain⟨l2,e2⟩:=List.getElem?_eq_some_iff.mp h3;exact(getElem_inj Amb).mp (e1.trans e2.symm)
def Bu:Nat->Int->Str
 |0,_=>⟨#[]⟩
 |k+1,n=>one (sg (n / 64 ^ k % 64).toNat) ++ Bu k n
theorem Amc (k:Nat) (n:Int):(Bu k n).cps.size=k:=by
 induction k with
 |zero=>rfl
 |succ k ih=>
  show ((one _).cps ++ (Bu k n).cps).size=k+1;rw[Array.size_append,ih];show 1+k=k+1;omega
def Aq6:List Nat->Int->Int
 |[],n=>n
 |c::r,n=>Aq6 r (n * 64+(idx c:Int))
theorem Abe (k:Nat) (n:Int):(Bu (k+1) n).cps.toList=sg (n / 64 ^ k % 64).toNat::(Bu k n).cps.toList:=by
 show ((one _).cps ++ (Bu k n).cps).toList=_;rw[toList_append];rfl
theorem toNat_lt (n:Int):(n % 64).toNat < 64:=by omega
theorem Aq7 (n:Int) {p q:Int} (hp:0 < p) (hq:0 < q):n % (p * q)=(n / p % q) * p+n % p:=by
 have e1:=Int.mul_ediv_add_emod n p;have e2:=Int.mul_ediv_add_emod (n / p) q;have r0:=emod_nonneg (n / p) (Int.ne_of_gt hq);have r1:=emod_lt_of_pos (n / p) hq;have s0:=emod_nonneg n (Int.ne_of_gt hp);have s1:=emod_lt_of_pos n hp;generalize n / p % q=r at *
 generalize n % p=t at *
 generalize n / p / q=m at *
 have e3:n=(r * p+t)+(p * q) * m:=by
  rw[<-e1,<-e2,Int.mul_add,mul_comm p r,Int.mul_assoc];omega
 rw[e3,Int.add_mul_emod_self_left];refine Int.emod_eq_of_lt (Int.add_nonneg (Int.mul_nonneg r0 (Int.le_of_lt hp)) s0) ?_;have h1:(r+1) * p<=q * p:=Int.mul_le_mul_of_nonneg_right (by omega) (Int.le_of_lt hp)
 rw[add_mul,Int.one_mul] at h1;rw[mul_comm p q];omega
theorem Aq8 (k:Nat) (n a:Int) (_hn:0<=n):Aq6 (Bu k n).cps.toList a=a * 64 ^ k+n % 64 ^ k:=by
 induction k generalizing a with
 |zero=>show a=a * 1+n % 1;omega
 |succ k ih=>
  rw[Abe];show Aq6 (Bu k n).cps.toList (a * 64+(idx (sg (n / 64 ^ k % 64).toNat):Int))=_;rw[ih,Bb0 (toNat_lt _)];have hp:(0:Int) < 64 ^ k:=Int.pow_pos (by decide)
  have h1:(((n / 64 ^ k % 64).toNat:Nat):Int)=n / 64 ^ k % 64:=toNat_of_nonneg (emod_nonneg _ (by decide))
  rw[h1];have h2:n % 64 ^ (k+1)=(n / 64 ^ k % 64) * 64 ^ k+n % 64 ^ k:=by
   rw[pow_succ];exact Aq7 n hp (by decide)
  rw[h2,pow_succ,add_mul,Int.mul_assoc,mul_comm 64 (64 ^ k)];omega
theorem Adf {k:Nat} {n:Int} (hn:0<=n) (hk:n < 64 ^ k):Aq6 (Bu k n).cps.toList 0=n:=by
 rw[Aq8 k n 0 hn,Int.zero_mul,zero_add];exact Int.emod_eq_of_lt hn hk
end M1
namespace M2
open PySem PySem.Builtin.Str M1
def okC (c:Nat):Bool:=decide (32<=c)&&decide (c<=126)&&decide (c≠37)
def Dw (x:Str):Bool:=x.cps.toList.all okC
def Td (l:List Nat) (k:Nat):Int:=((List.range k).map fun(i:Nat)=>((l.getD i 0:Nat) - 32+1:Int) * ((i:Int)+1)).sum
def chk (l:List Nat):Int:=Td l l.length
theorem Amd (l:List Nat):Td l 0=0:=rfl
theorem Vn (l:List Nat) (k:Nat):Td l (k+1)=Td l k+((l.getD k 0:Nat) - 32+1:Int) * ((k:Int)+1):=by
 unfold Td;rw[List.range_succ,map_append,List.sum_append,map_cons,map_nil,sum_cons,List.sum_nil];omega
theorem Afg (l:List Nat) (a c:Nat) (h:a < l.length):∀k,Td (l.set a c) k=Td l k+(if a < k then ((c:Int) - (l.getD a 0:Nat)) * ((a:Int)+1) else 0)
 |0=>by simp[Amd]
 |k+1=>by
  rw[Vn,Vn,Afg l a c h k];by_cases e:k=a
  .subst e;have e1:(l.set k c).getD k 0=c:=by simp[getD_eq_getElem?_getD,h]
   rw[e1,if_neg (lt_irrefl k),if_pos (lt_succ_self k)];rw[show ((c:Int) - 32+1)=((l.getD k 0:Nat) - 32+1:Int)+((c:Int) - (l.getD k 0:Nat)) by omega,add_mul]
   omega
  .have e1:(l.set a c).getD k 0=l.getD k 0:=by simp[getD_eq_getElem?_getD,getElem?_set_ne (Ne.symm e)]
   rw[e1];by_cases h1:a < k
   .rw[if_pos h1,if_pos (Nat.lt_succ_of_lt h1)];omega
   .rw[if_neg h1,if_neg (by omega)];omega
theorem Adg (l:List Nat) (a c:Nat) (h:a < l.length):chk (l.set a c)=chk l+((c:Int) - (l.getD a 0:Nat)) * ((a:Int)+1):=by
 unfold chk;rw[length_set,Afg l a c h,if_pos h]
theorem Aai:∀p,p < 300->0 < p->Nat.Coprime 4093 p:=by decide +kernel
theorem Bg9 {d p:Nat} (hd:0 < d) (hd2:d < 4093) (hp:0 < p) (hp2:p < 300):¬ 4093 ∣ d * p:=by
 intro h;have:=Nat.Coprime.dvd_of_dvd_mul_right (Aai p hp2 hp) h;have:=Nat.le_of_dvd hd this;omega
theorem Aj7 {x y:Int} (h:¬ (4093:Int) ∣ (x - y)):x % 4093≠y % 4093:=by
 intro e;exact h (Int.dvd_of_emod_eq_zero (by omega))
theorem Ah1 (l:List Nat) (a c:Nat) (h:a < l.length) (h2:a < 299) (hl:l.getD a 0<=126) (hc:c<=126) (ne:c≠l.getD a 0):chk (l.set a c) % 4093≠chk l % 4093:=by
 refine Aj7 ?_;rw[Adg l a c h];generalize l.getD a 0=b at *
 rw[show chk l+((c:Int) - (b:Nat)) * ((a:Int)+1) - chk l=((c:Int) - (b:Nat)) * ((a:Int)+1) by omega]
 intro hd;have hd':=Int.natAbs_dvd_natAbs.mpr hd;rw[Int.natAbs_mul] at hd';refine Bg9 (d:=((c:Int) - (b:Nat)).natAbs) (p:=((a:Int)+1).natAbs) ?_ ?_ ?_ ?_ hd' <;> omega
theorem Aq9 (l:List Nat) (a:Nat) (h:a+1 < l.length):chk ((l.set a (l.getD (a+1) 0)).set (a+1) (l.getD a 0))=chk l+((l.getD a 0:Nat):Int) - (l.getD (a+1) 0:Nat):=by
 rw[Adg _ _ _ (by rw[length_set];exact h),Adg _ _ _ (by omega)]
 have e1:(l.set a (l.getD (a+1) 0)).getD (a+1) 0=l.getD (a+1) 0:=by simp[getD_eq_getElem?_getD]
 rw[e1];generalize l.getD a 0=x;generalize l.getD (a+1) 0=y;have e2:((x:Int) - (y:Nat)) * (((a+1:Nat):Int)+1)=((x:Int) - (y:Nat)) * ((a:Int)+1)+((x:Int) - (y:Nat)):=by
  rw[show (((a+1:Nat):Int)+1)=((a:Int)+1)+1 by omega,Int.mul_add ((x:Int) - (y:Nat)) ((a:Int)+1) 1,Int.mul_one]
 have e3:((y:Int) - (x:Nat)) * ((a:Int)+1)+((x:Int) - (y:Nat)) * ((a:Int)+1)=0:=by
  rw[<-add_mul,show ((y:Int) - (x:Nat))+((x:Int) - (y:Nat))=0 by omega,Int.zero_mul]
 rw[e2];generalize ((y:Int) - (x:Nat)) * ((a:Int)+1)=u at *
 generalize ((x:Int) - (y:Nat)) * ((a:Int)+1)=v at *
 omega
theorem Afh (l:List Nat) (a:Nat) (h:a+1 < l.length) (h1:l.getD a 0<=126) (h2:l.getD (a+1) 0<=126) (ne:l.getD a 0≠l.getD (a+1) 0) :
  chk ((l.set a (l.getD (a+1) 0)).set (a+1) (l.getD a 0)) % 4093≠chk l % 4093:=by
 refine Aj7 ?_;rw[Aq9 l a h];generalize l.getD a 0=x at *
 generalize l.getD (a+1) 0=y at *
 rintro⟨k,hk⟩;omega
theorem Ara {m n:Int} (h0:0<=m) (h1:m < 4096) (h2:0<=n) (h3:n < 4096) (e:Bu 2 m=Bu 2 n):m=n:=by
 have a:=Adf (k:=2) h0 (by simpa using h1)
 have b:=Adf (k:=2) h2 (by simpa using h3)
 rw[<-a,<-b,e]
def check (x:Str):Str:=Bu 2 (chk x.cps.toList % 4093)
theorem Arb (e:check x=check y):chk x.cps.toList % 4093=chk y.cps.toList % 4093:=by
 refine Ara ?_ ?_ ?_ ?_ e <;> omega
theorem Aj8 {c:Nat}:okC c=true ↔ 32<=c/\c<=126/\c≠37:=by
 unfold okC;simp[and_assoc]
theorem Ah2 {l:List Nat} {a c:Nat} (h:l.all okC=true) (hc:okC c=true):(l.set a c).all okC=true:=by
 rw[all_eq_true] at h ⊢
 intro x hx;rcases List.mem_or_eq_of_mem_set hx with q|q
 .exact h x q
 .rw[q];exact hc
theorem Adh {l:List Nat} {a:Nat} (h:l.all okC=true) (ha:a < l.length):okC (l.getD a 0)=true:=by
 rw[getD_eq_getElem?_getD,getElem?_eq_getElem ha];exact all_eq_true.mp h _ (getElem_mem ha)
theorem set_list (l:List Nat) (a c:Nat) (h:a < l.length):l.take a ++ [c] ++ l.drop (a+1)=l.set a c:=by
 rw[List.set_eq_take_append_cons_drop,if_pos h,append_assoc];rfl
theorem Ame (l:List Nat) (a:Nat) (h:a+1 < l.length):l.take a ++ [l.getD (a+1) 0] ++ [l.getD a 0] ++ l.drop (a+2)=(l.set a (l.getD (a+1) 0)).set (a+1) (l.getD a 0):=by
 rw[<-set_list (l.set a _) (a+1) _ (by rw[length_set];exact h),drop_set_of_lt (by omega),<-set_list l a _ (by omega)]
 have e:(l.take a ++ [l.getD (a+1) 0] ++ l.drop (a+1)).take (a+1)=l.take a ++ [l.getD (a+1) 0]:=by
  rw[List.take_append_of_le_length (by rw[length_append,length_take,length_singleton];omega),List.take_of_length_le (by rw[length_append,length_take,length_singleton];omega)]
 rw[e]
theorem Amf (l:List Nat) (a:Nat) (e:l.getD a 0=l.getD (a+1) 0) (h:a+1 < l.length):(l.set a (l.getD (a+1) 0)).set (a+1) (l.getD a 0)=l:=by
 rw[e];have h1:l.getD (a+1) 0=l[a+1]:=by rw[getD_eq_getElem?_getD,getElem?_eq_getElem h];rfl
 have h0:l.getD a 0=l[a]:=by rw[getD_eq_getElem?_getD,getElem?_eq_getElem (by omega)];rfl
 have s1:l.set a (l.getD (a+1) 0)=l:=by rw[<-e,h0];exact List.set_getElem_self _
 rw[s1,h1];exact List.set_getElem_self _
theorem Bb1 (S:Str) (c:Nat) (h:c∈S.cps.toList):∃i rest,occurrences S ⟨#[c]⟩ 0 S.length 1=i::rest/\i < S.cps.size/\S.cps[i]?=some c:=by
 have q:=StrLaws.found_one S c;rw[decide_eq_true h] at q;cases e:occurrences S ⟨#[c]⟩ 0 S.length 1 with
 |nil=>rw[e] at q;cases q
 |cons i r=>
  have z:=StrLaws.occ_spec S ⟨#[c]⟩ 0 S.length 1 i (by rw[e];exact mem_cons_self)
  have hl:i+1<=S.cps.size:=z.1;exact⟨i,r,rfl,hl,subAt_one hl z.2⟩
theorem Afi {α:Type} {p:α->Bool} {a:α} {l:List α} (ha:p a=true) (h:∃c∈a::l,p c=false):∃c∈l,p c=false:=by
 obtain⟨c,hc,hp⟩:=h;cases hc with
 |head=>rw[ha] at hp;cases hp
 |tail _ hc=>exact⟨c,hc,hp⟩
theorem Vo {α:Type} (p:α->Bool):∀l:List α,(∃c∈l,p c=false)->(l.takeWhile p).length < l.length
 |[],h=>by obtain⟨c,hc,_⟩:=h;cases hc
 |a::l,h=>by
  rw[List.takeWhile_cons];cases ha:p a with
  |false=>simp
  |true=>
   have:=Vo p l (Afi ha h);simp only[if_true,length_cons];omega
theorem Abf {α:Type} (p:α->Bool):∀l:List α,(∀c∈l,p c=true)->l.takeWhile p=l
 |[],_=>rfl
 |a::l,h=>by
  rw[List.takeWhile_cons,h a (.head _),if_pos rfl,Abf p l (fun c hc=>h c (.tail _ hc))]
theorem Abg {α:Type} (p:α->Bool):∀l:List α,(∃c∈l,p c=false)->∃c∈l.drop (l.takeWhile p).length,p c=false
 |[],h=>by obtain⟨c,hc,_⟩:=h;cases hc
 |a::l,h=>by
  rw[List.takeWhile_cons];cases ha:p a with
  |false=>exact⟨a,.head _,ha⟩
  |true=>
   simp only[if_true,length_cons,List.drop_succ_cons];exact Abg p l (Afi ha h)
theorem Amg (h:∀c∈x.cps.toList,y.cps.contains c=true):Txt.stripChars x y=⟨#[]⟩:=by
 have lo:stripLo y.cps.contains true x=x.cps.size:=by
  unfold stripLo;rw[if_pos rfl,Abf _ _ h,length_toList]
 have hi:stripHi y.cps.contains true x x.cps.size=x.cps.size:=by
  unfold stripHi;rw[if_pos rfl,List.drop_of_length_le (by rw[length_toList];exact le_refl _)]
  rfl
 unfold Txt.stripChars Txt.stripBy;split
 .rename_i hs;unfold stripSame at hs;rw[lo,and_eq_true] at hs;have:x.cps.size=0:=by simpa using hs.1
  cases x with|mk cps=>
  exact congrArg Str.mk (Array.eq_empty_of_size_eq_zero this)
 .unfold stripped;rw[lo,hi];show Str.mk (x.cps.extract x.cps.size x.cps.size)=_;exact congrArg Str.mk (Array.eq_empty_of_size_eq_zero (by simp))
theorem Amh (h:∃c∈x.cps.toList,y.cps.contains c=false):Txt.stripChars x y≠⟨#[]⟩:=by
 have hl:x.cps.toList.length=x.cps.size:=length_toList;have hlo:stripLo y.cps.contains true x=(x.cps.toList.takeWhile y.cps.contains).length:=by
  unfold stripLo;rw[if_pos rfl]
 have h1:=Vo _ _ h;have h2:=Abg _ _ h;have h3:∃c∈(x.cps.toList.drop (x.cps.toList.takeWhile y.cps.contains).length).reverse,y.cps.contains c=false:=by
  obtain⟨c,hc,hp⟩:=h2;exact⟨c,List.mem_reverse.mpr hc,hp⟩
 have h4:=Vo _ _ h3;rw[List.length_reverse,length_drop] at h4;intro e;have e:=congrArg (fun z:Str=>z.cps.size) e;unfold Txt.stripChars Txt.stripBy at e;split at e
 .have e:x.cps.size=0:=e;omega
 .unfold stripped at e;rw[hlo] at e;unfold stripHi at e;rw[if_pos rfl] at e;have e:(x.cps.extract (x.cps.toList.takeWhile y.cps.contains).length (x.cps.size - ((x.cps.toList.drop (x.cps.toList.takeWhile y.cps.contains).length).reverse.takeWhile y.cps.contains).length)).size=0:=e;rw[Array.size_extract] at e;omega
def tsg:Str:=" !\"#$&'()*+,-./0123456789:;<=>?@ABCDEFGHIJKLMNOPQRSTUVWXYZ[\\]^_`abcdefghijklmnopqrstuvwxyz{|}~"
theorem Awa:∀c,c < 127->tsg.cps.contains c=okC c:=by decide +kernel
theorem Awb:tsg.cps.toList.all (fun c=>decide (c < 127))=true:=by decide +kernel
theorem Arc (c:Nat):tsg.cps.contains c=okC c:=by
 by_cases h:c < 127
 .exact Awa c h
 .have e:okC c=false:=by
   unfold okC;rw[decide_eq_false (p:=c<=126) (by omega),Bool.and_false,Bool.false_and]
  rw[e];cases hc:tsg.cps.contains c with
  |false=>rfl
  |true=>
   have hm:c∈tsg.cps.toList:=by simpa using hc
   exact absurd (of_decide_eq_true (all_eq_true.mp Awb c hm)) h
theorem Ah3 (z:Str):(Txt.stripChars z tsg==⟨#[]⟩)=Dw z:=by
 cases h:Dw z with
 |true=>
  rw[Amg (fun c hc=>by rw[Arc];exact all_eq_true.mp h c hc)]
  exact beq_self_eq_true _
 |false=>
  rw[beq_eq_false_iff_ne];refine Amh ?_;obtain⟨c,hc,hp⟩:=List.all_eq_false.mp h;exact⟨c,hc,by rw[Arc];exact not_eq_true _ ▸ hp⟩
end M2
namespace K5
open PySem PySem.Spec PyProof.Rows L2 D
def top (i:Nat):Stmt:=PySem.Challenge.pw_leafhouse_k05_whole_page_to_text_to_page.main.body.getD i (.Pass ⟨0,0,0,0⟩)
def fuel:Nat:=1000
def Be4:List (Nat×Nat×Bool):=[(0,0,true),(0,1,false),(0,2,false),(0,3,false),(0,4,false),(1,0,true),(1,1,true),(1,2,false),(1,3,false),(1,4,false),(2,0,true),(2,1,false),(2,2,true),(2,3,false),(2,4,false),(3,0,true),(3,1,false),(3,2,false),(3,3,true),(3,4,false),(4,0,true),(4,1,false),(4,2,false),(4,3,false),(4,4,true)]
def Be5:List Nat:=[0,1,2,3,4]
def isa:Nat->W->Option Bool:=Aql Be4 Be5
def Be6:List (Nat×Str):=[(5,"body"),(5,"place")]
def xfL:List (Nat×Str):=[(4,"number")]
def fld (b:Bool) (c:Nat) (f:Str):Bool:=if b then xfL.lookup c==some f else Be6.contains (c,f)
def mnL:List Str:=["__init__","next_cell","next_key","next_keys","next_number","next_numbers","next_row","next_rows","next_signs"]
def mkL:List (Str×Nat):=[("BodyReader",5)]
def Be7:List (Str×W):=[("SIGNS",.str "0123456789abcdefghijklmnopqrstuvwxyzABCDEFGHIJKLMNOPQRSTUVWXYZ+-"),("BITS",.int 6),("LOWEST_BITS",.int 63),("MOST_SIGNS",.int 3),("TEXT_SIGNS",.str " !\"#$&'()*+,-./0123456789:;<=>?@ABCDEFGHIJKLMNOPQRSTUVWXYZ[\\]^_`abcdefghijklmnopqrstuvwxyz{|}~"),("CODES_AHEAD",.int 31),("CHECK_DIVISOR",.int 4093),("CHECK_SIGNS",.int 2),("MOST_KEY_SIGNS",.int 12),("MOST_VALUE_SIGNS",.int 400),("LEAST_SIZE",.int 64),("MOST_SIZE",.int 200),("MOST_NUMBER",.int 4095),("MOST_ROWS",.int 63),("MOST_CELL_SIGNS",.int 63),("NUMBER_SIGNS",.int 2),("SIGNS_BESIDE_BODY",.int 5),("BODY_START",.int 3),("int",.ty "int"),("bool",.ty "bool"),("str",.ty "str"),("tuple",.ty "tuple"),("list",.ty "list"),("ValueError",.ty "ValueError"),("TableError",.cls 0),("BadNumber",.cls 1),("BadText",.cls 2),("BadSize",.cls 3),("BadPage",.cls 4),("BodyReader",.cls 5)]
def biL:List Str:=["isinstance","len","ord","max","min","sum","all","tuple","list","sorted","range","zip","enumerate"]
def Be8:List (Str×Nat):=[("TableError",0),("BadNumber",1),("BadText",2),("BadSize",3)]
def Be9:List (Str×(Nat×List W)):=[("BadPage",(4,[]))]
def Bfa:List (Str×Nat):=[("TableError",0),("BadText",2)]
def Bfb:List (Nat×Nat):=[(0,0),(0,1),(0,2),(0,3),(0,4),(2,2)]
def exm (k c:Nat):Bool:=Bfb.contains (k,c)
def Gb:List (Str×Str):=[("head","h"),("leaf","l"),("fork","f"),("rest","r"),("free","e")]
def Bfc:List (Str×List (Str×Str)):=[("LETTERS",Gb)]
def md (ns:List Int):Md:={ con:=fun x=>Be7.lookup x,bi:=fun x=>biL.contains x,exc:=fun x=>Be8.lookup x,isa:=isa,ns:=ns,fld:=fld,fuel:=fuel,mdc:=fun x=>Bfc.lookup x,exi:=fun x=>Be9.lookup x,hcl:=fun x=>Bfa.lookup x,exm:=exm,mn:=fun x=>mnL.contains x,mkl:=fun x=>mkL.lookup x }
def T_0 (ns:List Int):List (Str×Fi):=[]
def U_0 (ns:List Int):List ((Nat×Str)×Fi):=[]
abbrev Ku:Stmt:=top 61
def Y0:List Str:=["_law_script","_law_k"]
def Ph (ns:List Int):MS:=(Aj (ifS (Ay (Bf .Lt (Ac 1) (Ae (Dd ns) (Aa (Ac 0) nilF)))) (Aj (retS (ixF ns (Ac 0) (Ac 1)))
  Am) Am)
 (Aj (retS (kF (.int 0)))
 Am))
def Ii (ns:List Int):List W->M W:=Ck 2 2 (Ph ns)
theorem Y4 (ns:List Int):Cv (Aq Ku) ((md ns).gm (T_0 ns) Y0 (Ak Ku) (U_0 ns))=Ph ns:=by kernel_rfl
def Pj (ns:List Int):List (Str×Fi):=("_law_cell_at",⟨Ii ns,2,[]⟩)::T_0 ns
abbrev Pk:Stmt:=top 62
def Afj:List Str:=["_law_state","_law_k","_law_cell_here"]
def Pn (ns:List Int):MS:=(Aj (Yp (Ac 0) (kF (.str "at")) (Ao .add (ixF ns (Ac 0) (kF (.str "at"))) (kF (.int 1))))
 (Aj (Bo 1 (ixF ns (Ac 0) (kF (.str "at"))))
 (Aj (Bo 2 (Ae (Ii ns) (Aa (ixF ns (Ac 0) (kF (.str "cells"))) (Aa (Ao .mod (Ac 1) (Ae Ao9 (Aa (kF (.int 1)) (Aa (Ae (Dd ns) (Aa (ixF ns (Ac 0) (kF (.str "cells"))) nilF)) nilF)))) nilF))))
 (Aj (retS (Ao .fdiv (Ao .mod (Ao .add (Ao .mul (Ac 2) (kF (.int 48271))) (Ao .mul (Ao .mul (Ac 1) (Ac 1)) (kF (.int 69621)))) (kF (.int 2147483647))) (kF (.int 8))))
 Am))))
def By (ns:List Int):List W->M W:=Ck 1 3 (Pn ns)
theorem Afk (ns:List Int):Cv (Aq Pk) ((md ns).gm (Pj ns) Afj (Ak Pk) (U_0 ns))=Pn ns:=by kernel_rfl
def Wk (ns:List Int):List (Str×Fi):=("_law_next",⟨By ns,1,[]⟩)::Pj ns
abbrev Nq:Stmt:=top 64
def Adi:List Str:=["_law_some"]
def Uo (ns:List Int):MS:=(Aj (Bo 0 (kF (.str "0123456789abcdefghijklmnopqrstuvwxyzABCDEFGHIJKLMNOPQRSTUVWXYZ")))
 (Aj (retS (Ao .add (kF (.str " !\"#$&'()*+,-./:;<=>?\x40[\\]^_`{|}~")) (Ac 0)))
 Am))
def Gz (ns:List Int):List W->M W:=Ck 0 1 (Uo ns)
theorem Adj (ns:List Int):Cv (Aq Nq) ((md ns).gm (Wk ns) Adi (Ak Nq) (U_0 ns))=Uo ns:=by kernel_rfl
def Up (ns:List Int):List (Str×Fi):=("_law_signs",⟨Gz ns,0,[]⟩)::Wk ns
abbrev Pq:Stmt:=top 65
def Afl:List Str:=["_law_number","_law_size","_law_signs_here","_law_many"]
def Wl (ns:List Int):MS:=(Aj (Bo 2 (Ae (Gz ns) nilF))
 (Aj (Bo 3 (Ae (Dd ns) (Aa (Ac 2) nilF)))
 (Aj (retS (Jc .str Ko (kF (.str "")) (Aa (Df 1 [3,0,2] (Om Hw (Aa (Ac 1) nilF)) (Cu 0) (fun _=>pure true) (ixF ns (Ac 3) (Ao .mod (Ao .add (Ao .add (Ao .fdiv (Ac 2) (kF (.int 7))) (Ao .mul (Ao .mul (kF (.int 13)) (Ac 0)) (Ac 0))) (Ao .mul (kF (.int 5)) (Ac 0))) (Ac 1)))) nilF)))
 Am)))
def J0 (ns:List Int):List W->M W:=Ck 2 4 (Wl ns)
theorem Afm (ns:List Int):Cv (Aq Pq) ((md ns).gm (Up ns) Afl (Ak Pq) (U_0 ns))=Wl ns:=by kernel_rfl
def Wn (ns:List Int):List (Str×Fi):=("_law_text",⟨J0 ns,2,[]⟩)::Up ns
abbrev Mg:Stmt:=top 68
def Aaj:List Str:=["_law_state","_law_many","_law_base","_law_found","_law_turn","_law_number","_law_size","_law_at","_law_signs_here","_law_sign"]
def R6 (ns:List Int):MS:=(Aj (Bo 2 (Ae (J0 ns) (Aa (Ae (By ns) (Aa (Ac 0) nilF)) (Aa (kF (.int 12)) nilF))))
 (Aj (Bo 3 (Oh []))
 (Aj (Vh (Om Hw (Aa (Ac 1) nilF)) (Cu 4) (Aj (Bo 5 (Ae (By ns) (Aa (Ac 0) nilF)))
  (Aj (Bo 6 (ixF ns (Oj (Aa (kF (.int 1)) (Aa (kF (.int 12)) (Aa (Ao .add (kF (.int 1)) (Ao .mod (Ao .fdiv (Ac 5) (kF (.int 5))) (kF (.int 12)))) (Aa (kF (.int 3)) (Aa (Ao .add (kF (.int 2)) (Ao .mod (Ao .fdiv (Ac 5) (kF (.int 5))) (kF (.int 3)))) nilF)))))) (Ao .mod (Ac 5) (kF (.int 5)))))
  (Aj (Bo 7 (Ao .mod (Ao .fdiv (Ac 5) (kF (.int 60))) (Ac 6)))
  (Aj (Bo 8 (Ae (Gz ns) nilF))
  (Aj (Bo 9 (ixF ns (Ac 8) (Ao .mod (Ao .fdiv (Ac 5) (kF (.int 720))) (Ae (Dd ns) (Aa (Ac 8) nilF)))))
  (Aj (Yp (Ac 3) (Ao .add (Ao .add (slF ns (Ac 2) Bs (Cg (Ac 7))) (Ac 9)) (slF ns (Ac 2) (Cg (Ao .add (Ac 7) (kF (.int 1)))) (Cg (Ac 6)))) (kF (.bl true)))
  Am)))))))
 (Aj (retS (Ae Rg (Aa (Ac 3) nilF)))
 Am))))
def Mh (ns:List Int):List W->M W:=Ck 2 10 (R6 ns)
theorem Aak (ns:List Int):Cv (Aq Mg) ((md ns).gm (Wn ns) Aaj (Ak Mg) (U_0 ns))=R6 ns:=by kernel_rfl
def R7 (ns:List Int):List (Str×Fi):=("_law_rising",⟨Mh ns,2,[]⟩)::Wn ns
abbrev Pr:Stmt:=top 69
def Afn:List Str:=["_law_state","_law_size","_law_number"]
def Wo (ns:List Int):MS:=(Aj (Bo 2 (Ae (By ns) (Aa (Ac 0) nilF)))
 (Aj (ifS (Ay (Bf .Eq (Ao .mod (Ac 2) (kF (.int 3))) (kF (.int 0)))) (Aj (retS (Jk (Aa (kF (.str "out")) (Aa (Ao .add (kF (.int 1)) (Ao .mod (Ao .fdiv (Ac 2) (kF (.int 3))) (kF (.int 400)))) (Aa (Ao .add (kF (.int 1)) (Ao .mod (Ao .fdiv (Ac 2) (kF (.int 1200))) (kF (.int 4095)))) nilF)))))
  Am) Am)
 (Aj (retS (Jk (Aa (kF (.str "in")) (Aa (Ae (J0 ns) (Aa (Ac 2) (Aa (ixF ns (Oj (Aa (kF (.int 0)) (Aa (kF (.int 1)) (Aa (Ao .fdiv (Ac 1) (kF (.int 8))) (Aa (Ao .mod (Ao .fdiv (Ac 2) (kF (.int 30))) (Ao .add (Ao .fdiv (Ac 1) (kF (.int 8))) (kF (.int 1)))) nilF))))) (Ao .mod (Ao .fdiv (Ac 2) (kF (.int 3))) (kF (.int 4)))) nilF))) nilF))))
 Am)))
def Lk (ns:List Int):List W->M W:=Ck 2 3 (Wo ns)
theorem Afo (ns:List Int):Cv (Aq Pr) ((md ns).gm (R7 ns) Afn (Ak Pr) (U_0 ns))=Wo ns:=by kernel_rfl
def Wq (ns:List Int):List (Str×Fi):=("_law_cell",⟨Lk ns,2,[]⟩)::R7 ns
abbrev Mi:Stmt:=top 66
def Aal:List Str:=["_law_number","_law_many","_law_signs_here","_law_found","_law_k"]
def R8 (ns:List Int):MS:=(Aj (Bo 2 (kF (.str "0123456789abcdefghijklmnopqrstuvwxyzABCDEFGHIJKLMNOPQRSTUVWXYZ+-")))
 (Aj (Bo 3 (kF (.str "")))
 (Aj (Vh (Om Hw (Aa (Ac 1) nilF)) (Cu 4) (Aj (Bo 3 (Ao .add (ixF ns (Ac 2) (Ao .mod (Ac 0) (kF (.int 64)))) (Ac 3)))
  (Aj (Bo 0 (Ao .fdiv (Ac 0) (kF (.int 64))))
  Am)))
 (Aj (retS (Ac 3))
 Am))))
def Bl (ns:List Int):List W->M W:=Ck 2 5 (R8 ns)
theorem Aam (ns:List Int):Cv (Aq Mi) ((md ns).gm (Wq ns) Aal (Ak Mi) (U_0 ns))=R8 ns:=by kernel_rfl
def R9 (ns:List Int):List (Str×Fi):=("_law_digits",⟨Bl ns,2,[]⟩)::Wq ns
abbrev Px:Stmt:=top 71
def Afp:List Str:=["_law_page_here","_law_found","_law_key","_law_cell_here"]
def Wr (ns:List Int):MS:=(Aj (ifS (Ay (Bf .Eq (ixF ns (Ac 0) (kF (.int 0))) (kF (.str "rest")))) (Aj (retS (Ao .add (Ae (Bl ns) (Aa (ixF ns (Ac 0) (kF (.int 2))) (Aa (kF (.int 2)) nilF))) (ixF ns (Ac 0) (kF (.int 1)))))
  Am) Am)
 (Aj (ifS (orT (Ay (Bf .Eq (ixF ns (Ac 0) (kF (.int 0))) (kF (.str "head")))) (Ay (Bf .Eq (ixF ns (Ac 0) (kF (.int 0))) (kF (.str "free"))))) (Aj (retS (Jc .str Ko (kF (.str "")) (Aa (Df 1 [] (Eh ns (slF ns (Ac 0) (Cg (kF (.int 1))) Bs)) (Cu 0) (fun _=>pure true) (Ae (Bl ns) (Aa (Ac 0) (Aa (kF (.int 2)) nilF)))) nilF)))
  Am) Am)
 (Aj (Bo 1 (Ae (Bl ns) (Aa (Ae (Dd ns) (Aa (ixF ns (Ac 0) (kF (.int 1))) nilF)) (Aa (kF (.int 1)) nilF))))
 (Aj (ifS (Ay (Bf .Eq (ixF ns (Ac 0) (kF (.int 0))) (kF (.str "fork")))) (Aj (Vh (Eh ns (ixF ns (Ac 0) (kF (.int 1)))) (Cu 2) (Aj (Bo 1 (Ao .add (Ao .add (Ac 1) (Ae (Bl ns) (Aa (Ae (Dd ns) (Aa (Ac 2) nilF)) (Aa (kF (.int 1)) nilF)))) (Ac 2)))
   Am))
  (Aj (retS (Ao .add (Ac 1) (Jc .str Ko (kF (.str "")) (Aa (Df 1 [] (Eh ns (ixF ns (Ac 0) (kF (.int 2)))) (Cu 0) (fun _=>pure true) (Ae (Bl ns) (Aa (Ac 0) (Aa (kF (.int 2)) nilF)))) nilF))))
  Am)) Am)
 (Aj (Vh (Eh ns (ixF ns (Ac 0) (kF (.int 1)))) (W9 [2,3]) (Aj (Bo 1 (Ao .add (Ao .add (Ac 1) (Ae (Bl ns) (Aa (Ae (Dd ns) (Aa (Ac 2) nilF)) (Aa (kF (.int 1)) nilF)))) (Ac 2)))
  (Aj (ifS (Ay (Bf .Eq (ixF ns (Ac 3) (kF (.int 0))) (kF (.str "in")))) (Aj (Bo 1 (Ao .add (Ao .add (Ao .add (Ac 1) (kF (.str "i"))) (Ae (Bl ns) (Aa (Ae (Dd ns) (Aa (ixF ns (Ac 3) (kF (.int 1))) nilF)) (Aa (kF (.int 1)) nilF)))) (ixF ns (Ac 3) (kF (.int 1)))))
   Am) (Aj (Bo 1 (Ao .add (Ao .add (Ao .add (Ac 1) (kF (.str "o"))) (Ae (Bl ns) (Aa (ixF ns (Ac 3) (kF (.int 1))) (Aa (kF (.int 2)) nilF)))) (Ae (Bl ns) (Aa (ixF ns (Ac 3) (kF (.int 2))) (Aa (kF (.int 2)) nilF)))))
   Am))
  Am)))
 (Aj (retS (Ac 1))
 Am))))))
def Hy (ns:List Int):List W->M W:=Ck 1 4 (Wr ns)
theorem Afq (ns:List Int):Cv (Aq Px) ((md ns).gm (R9 ns) Afp (Ak Px) (U_0 ns))=Wr ns:=by kernel_rfl
def Ws (ns:List Int):List (Str×Fi):=("_law_body",⟨Hy ns,1,[]⟩)::R9 ns
abbrev Py:Stmt:=top 70
def Afr:List Str:=["_law_state","_law_size","_law_number","_law_kind","_law_some","_law_many","_law_keys","_law_rows"]
def Wt (ns:List Int):MS:=(Aj (Bo 2 (Ae (By ns) (Aa (Ac 0) nilF)))
 (Aj (Bo 3 (Ao .mod (Ac 2) (kF (.int 7))))
 (Aj (ifS (Ay (Bf .Eq (Ac 3) (kF (.int 0)))) (Aj (Bo 4 (Df 1 [0] (Om Hw (Aa (kF (.int 4)) nilF)) (Cu 0) (fun _=>pure true) (ixF ns (Oj (Aa (kF (.int 4095)) (Aa (kF (.int 0)) (Aa (kF (.int 63)) (Aa (kF (.int 64)) (Aa (Ao .mod (Ae (By ns) (Aa (Ac 1) nilF)) (kF (.int 4096))) nilF)))))) (Ao .mod (Ae (By ns) (Aa (Ac 1) nilF)) (kF (.int 5))))))
  (Aj (retS (Ao .add (Jk (Aa (kF (.str "head")) nilF)) (Ae (Et ns) (Aa (Ac 4) nilF))))
  Am)) Am)
 (Aj (ifS (Ay (Bf .Eq (Ac 3) (kF (.int 1)))) (Aj (retS (Jk (Aa (kF (.str "free")) (Aa (ixF ns (Oj (Aa (kF (.int 0)) (Aa (kF (.int 1)) (Aa (kF (.int 4095)) (Aa (Ao .mod (Ao .fdiv (Ac 2) (kF (.int 7))) (kF (.int 4096))) nilF))))) (Ao .mod (Ao .fdiv (Ac 2) (kF (.int 7))) (kF (.int 4)))) nilF))))
  Am) Am)
 (Aj (ifS (Ay (Bf .Eq (Ac 3) (kF (.int 2)))) (Aj (Bo 5 (ixF ns (Oj (Aa (kF (.int 1)) (Aa (Ao .sub (Ac 1) (kF (.int 7))) (Aa (Ao .add (kF (.int 1)) (Ao .mod (Ao .fdiv (Ac 2) (kF (.int 7))) (Ao .sub (Ac 1) (kF (.int 7))))) nilF)))) (Ao .mod (Ao .fdiv (Ac 2) (kF (.int 7))) (kF (.int 3)))))
  (Aj (retS (Jk (Aa (kF (.str "rest")) (Aa (Ae (J0 ns) (Aa (Ac 2) (Aa (Ac 5) nilF))) (Aa (ixF ns (Oj (Aa (kF (.int 0)) (Aa (Ao .mod (Ao .fdiv (Ac 2) (kF (.int 21))) (kF (.int 4096))) nilF))) (Ao .mod (Ao .fdiv (Ac 2) (kF (.int 7))) (kF (.int 2)))) nilF)))))
  Am)) Am)
 (Aj (Bo 6 (Ae (Mh ns) (Aa (Ac 0) (Aa (Ao .mod (Ao .fdiv (Ac 2) (kF (.int 7))) (kF (.int 14))) nilF))))
 (Aj (ifS (Ay (Bf .Lt (Ac 3) (kF (.int 5)))) (Aj (Bo 7 (Df 1 [1,0] (Eh ns (Ac 6)) (Cu 0) (fun _=>pure true) (Jk (Aa (Ac 0) (Aa (Ae (Lk ns) (Aa (Ac 2) (Aa (Ac 1) nilF))) nilF)))))
  (Aj (Hs (Ay (Bf .Gt (Ae (Dd ns) (Aa (Ae (Hy ns) (Aa (Jk (Aa (kF (.str "leaf")) (Aa (Ae (Et ns) (Aa (Ac 7) nilF)) nilF))) nilF)) nilF)) (Ao .sub (Ac 1) (kF (.int 5))))) (Aj (Rz (Jc .lst Ng (Ac 7) (Aa (Ao .mod (Ac 2) (Ae (Dd ns) (Aa (Ac 7) nilF))) nilF)))
   Am) fuel)
  (Aj (retS (Jk (Aa (kF (.str "leaf")) (Aa (Ae (Et ns) (Aa (Ac 7) nilF)) nilF))))
  Am))) Am)
 (Aj (Hs (Ay (Bf .Gt (Ao .add (Ao .add (Ao .add (kF (.int 1)) (Ae Acr (Aa (Df 1 [] (Eh ns (Ac 6)) (Cu 0) (fun _=>pure true) (Ao .add (kF (.int 1)) (Ae (Dd ns) (Aa (Ac 0) nilF)))) nilF))) (Ao .mul (kF (.int 2)) (Ae (Dd ns) (Aa (Ac 6) nilF)))) (kF (.int 2))) (Ao .sub (Ac 1) (kF (.int 5))))) (Aj (Rz (Jc .lst Ng (Ac 6) (Aa (Ao .mod (Ac 2) (Ae (Dd ns) (Aa (Ac 6) nilF))) nilF)))
  Am) fuel)
 (Aj (retS (Jk (Aa (kF (.str "fork")) (Aa (Ae (Et ns) (Aa (Ac 6) nilF)) (Aa (Ae (Et ns) (Aa (Df 1 [0] (Om Hw (Aa (Ao .add (Ae (Dd ns) (Aa (Ac 6) nilF)) (kF (.int 1))) nilF)) (Cu 0) (fun _=>pure true) (Ao .add (kF (.int 1)) (Ao .mod (Ae (By ns) (Aa (Ac 1) nilF)) (kF (.int 4095))))) nilF)) nilF)))))
 Am)))))))))
def Pz (ns:List Int):List W->M W:=Ck 2 8 (Wt ns)
theorem Afs (ns:List Int):Cv (Aq Py) ((md ns).gm (Ws ns) Afr (Ak Py) (U_0 ns))=Wt ns:=by kernel_rfl
def Wu (ns:List Int):List (Str×Fi):=("_law_page",⟨Pz ns,2,[]⟩)::Ws ns
abbrev Nr:Stmt:=top 67
def Adk:List Str:=["_law_text_here","_law_order","_law_found","_law_k","_law_sign","_law_place"]
def Uq (ns:List Int):MS:=(Aj (Bo 1 (kF (.str " !\"#$?&'()*+,-./0123456789:;<=>?@ABCDEFGHIJKLMNOPQRSTUVWXYZ[\\]^_`abcdefghijklmnopqrstuvwxyz{|}~")))
 (Aj (Bo 2 (kF (.int 0)))
 (Aj (Vh (Om Hw (Aa (Ae (Dd ns) (Aa (Ac 0) nilF)) nilF)) (Cu 3) (Aj (Bo 4 (ixF ns (Ac 0) (Ac 3)))
  (Aj (Bo 5 (Jc .str Apf (Ac 1) (Aa (Ac 4) nilF)))
  (Aj (ifS (Ay (Bf .Eq (Ac 4) (kF (.str "?")))) (Aj (Bo 5 (Jc .str Ahj (Ac 1) (Aa (Ac 4) nilF)))
   Am) Am)
  (Aj (Bo 2 (Ao .add (Ac 2) (Ao .mul (Ao .add (Ac 5) (kF (.int 1))) (Ao .add (Ac 3) (kF (.int 1))))))
  Am)))))
 (Aj (retS (Ae (Bl ns) (Aa (Ao .mod (Ac 2) (kF (.int 4093))) (Aa (kF (.int 2)) nilF))))
 Am))))
def Ij (ns:List Int):List W->M W:=Ck 1 6 (Uq ns)
theorem Adl (ns:List Int):Cv (Aq Nr) ((md ns).gm (Wu ns) Adk (Ak Nr) (U_0 ns))=Uq ns:=by kernel_rfl
def Ur (ns:List Int):List (Str×Fi):=("_law_check",⟨Ij ns,1,[]⟩)::Wu ns
abbrev Jo:Stmt:=top 72
def Vp:List Str:=["_law_page_here","_law_size","_law_body_here","_law_letter","_law_text_here"]
def Mx (ns:List Int):MS:=(Aj (Bo 2 (Ae (Hy ns) (Aa (Ac 0) nilF)))
 (Aj (Bo 3 (ixF ns (Oh [((kF (.str "head")),(kF (.str "h"))),((kF (.str "leaf")),(kF (.str "l"))),((kF (.str "fork")),(kF (.str "f"))),((kF (.str "rest")),(kF (.str "r"))),((kF (.str "free")),(kF (.str "e")))]) (ixF ns (Ac 0) (kF (.int 0)))))
 (Aj (Bo 4 (Ao .add (Ao .add (Ac 3) (Ae (Bl ns) (Aa (Ae (Dd ns) (Aa (Ac 2) nilF)) (Aa (kF (.int 2)) nilF)))) (Ac 2)))
 (Aj (Bo 4 (Ao .add (Ac 4) (Ao .mul (kF (.str "0")) (Ao .sub (Ao .sub (Ac 1) (kF (.int 2))) (Ae (Dd ns) (Aa (Ac 4) nilF))))))
 (Aj (retS (Ao .add (Ac 4) (Ae (Ij ns) (Aa (Ac 4) nilF))))
 Am)))))
def Jp (ns:List Int):List W->M W:=Ck 2 5 (Mx ns)
theorem Vq (ns:List Int):Cv (Aq Jo) ((md ns).gm (Ur ns) Vp (Ak Jo) (U_0 ns))=Mx ns:=by kernel_rfl
def My (ns:List Int):List (Str×Fi):=("_law_page_text",⟨Jp ns,2,[]⟩)::Ur ns
abbrev Hf:Stmt:=top 18
def Ru:List Str:=["thing"]
def J6 (ns:List Int):MS:=(Aj (ifS (orT (Ld (Ay (Ae (Dq isa) (Aa (Ac 0) (Aa (kF (.ty "str")) nilF))))) (orT (Ay (Bf .Lt (Ae (Dd ns) (Aa (Ac 0) nilF)) (kF (.int 1)))) (Ay (Bf .Gt (Ae (Dd ns) (Aa (Ac 0) nilF)) (kF (.int 3)))))) (Aj (retS (kF (.bl false)))
  Am) Am)
 (Aj (retS (Ae Ol (Aa (Df 1 [] (Eh ns (Ac 0)) (Cu 0) (fun _=>pure true) (Bf .In (Ac 0) (kF (.str "0123456789abcdefghijklmnopqrstuvwxyzABCDEFGHIJKLMNOPQRSTUVWXYZ+-")))) nilF)))
 Am))
def Hg (ns:List Int):List W->M W:=Ck 1 1 (J6 ns)
theorem Rv (ns:List Int):Cv (Aq Hf) ((md ns).gm (My ns) Ru (Ak Hf) (U_0 ns))=J6 ns:=by kernel_rfl
def J7 (ns:List Int):List (Str×Fi):=("is_written_number",⟨Hg ns,1,[]⟩)::My ns
abbrev P0:Stmt:=top 19
def Aft:List Str:=["text","number","sign"]
def Wv (ns:List Int):MS:=(Aj (ifS (Ld (Ay (Ae (Hg ns) (Aa (Ac 0) nilF)))) (Aj (O4 2 (Aa (kF (.str "no number of one to three signs")) nilF))
  Am) Am)
 (Aj (Bo 1 (kF (.int 0)))
 (Aj (Vh (Eh ns (Ac 0)) (Cu 2) (Aj (Bo 1 (Ao .add (Ao .shl (Ac 1) (kF (.int 6))) (Jc .str Nh (kF (.str "0123456789abcdefghijklmnopqrstuvwxyzABCDEFGHIJKLMNOPQRSTUVWXYZ+-")) (Aa (Ac 2) nilF))))
  Am))
 (Aj (retS (Ac 1))
 Am))))
def Ln (ns:List Int):List W->M W:=Ck 1 3 (Wv ns)
theorem Afu (ns:List Int):Cv (Aq P0) ((md ns).gm (J7 ns) Aft (Ak P0) (U_0 ns))=Wv ns:=by kernel_rfl
def Ea (ns:List Int):List (Str×Fi):=("number_of",⟨Ln ns,1,[]⟩)::J7 ns
abbrev Ge:Stmt:=inClass (top 55) 0
def Oq:List Str:=["self","body"]
def Je (ns:List Int):MS:=(Aj (Yo fld "body" (Ac 0) (Ac 1))
 (Aj (Yo fld "place" (Ac 0) (kF (.int 0)))
 Am))
def Gf (ns:List Int):List W->M W:=Ck 2 2 (Je ns)
theorem Ot (ns:List Int):Cv (Aq Ge) ((md ns).gm (Ea ns) Oq (Ak Ge) (U_0 ns))=Je ns:=by kernel_rfl
def Jf (ns:List Int):List ((Nat×Str)×Fi):=((5,"__init__"),⟨Gf ns,2,[]⟩)::U_0 ns
abbrev Fb:Stmt:=inClass (top 55) 1
def Mz:List Str:=["self","many","start"]
def Hz (ns:List Int):MS:=(Aj (Bo 2 (Xb fld "place" (Ac 0)))
 (Aj (Yo fld "place" (Ac 0) (Ao .add (Ac 2) (Ac 1)))
 (Aj (retS (slF ns (Xb fld "body" (Ac 0)) (Cg (Ac 2)) (Cg (Xb fld "place" (Ac 0)))))
 Am)))
def Ia (ns:List Int):List W->M W:=Ck 2 3 (Hz ns)
theorem M3 (ns:List Int):Cv (Aq Fb) ((md ns).gm (Ea ns) Mz (Ak Fb) (Jf ns))=Hz ns:=by kernel_rfl
def Fd (ns:List Int):List ((Nat×Str)×Fi):=((5,"next_signs"),⟨Ia ns,2,[]⟩)::Jf ns
abbrev Eu:Stmt:=inClass (top 55) 2
def Mj:List Str:=["self","many"]
def Hl (ns:List Int):MS:=(Aj (retS (Ae (Ln ns) (Aa (Dk (fun c n=>(Fd ns).lookup (c,n)) "next_signs" (Ac 0) (Aa (Ac 1) nilF)) nilF)))
 Am)
def Hm (ns:List Int):List W->M W:=Ck 2 2 (Hl ns)
theorem Ml (ns:List Int):Cv (Aq Eu) ((md ns).gm (Ea ns) Mj (Ak Eu) (Fd ns))=Hl ns:=by kernel_rfl
def Dy (ns:List Int):List ((Nat×Str)×Fi):=((5,"next_number"),⟨Hm ns,2,[]⟩)::Fd ns
abbrev Gg:Stmt:=inClass (top 55) 4
def Ou:List Str:=["self"]
def Jg (ns:List Int):MS:=(Aj (retS (Dk (fun c n=>(Dy ns).lookup (c,n)) "next_signs" (Ac 0) (Aa (Dk (fun c n=>(Dy ns).lookup (c,n)) "next_number" (Ac 0) (Aa (kF (.int 1)) nilF)) nilF)))
 Am)
def Jh (ns:List Int):List W->M W:=Ck 1 1 (Jg ns)
theorem Ov (ns:List Int):Cv (Aq Gg) ((md ns).gm (Ea ns) Ou (Ak Gg) (Dy ns))=Jg ns:=by kernel_rfl
def Gh (ns:List Int):List ((Nat×Str)×Fi):=((5,"next_key"),⟨Jh ns,1,[]⟩)::Dy ns
abbrev Fp:Stmt:=inClass (top 55) 5
def Nt:List Str:=["self","many"]
def Ik (ns:List Int):MS:=(Aj (retS (Ae (Et ns) (Aa (Df 1 [0] (Om Hw (Aa (Ac 1) nilF)) (Cu 0) (fun _=>pure true) (Dk (fun c n=>(Gh ns).lookup (c,n)) "next_key" (Ac 1) nilF)) nilF)))
 Am)
def Fq (ns:List Int):List W->M W:=Ck 2 2 (Ik ns)
theorem Nu (ns:List Int):Cv (Aq Fp) ((md ns).gm (Ea ns) Nt (Ak Fp) (Gh ns))=Ik ns:=by kernel_rfl
def Ft (ns:List Int):List ((Nat×Str)×Fi):=((5,"next_keys"),⟨Fq ns,2,[]⟩)::Gh ns
abbrev Eo:Stmt:=inClass (top 55) 3
def Lf:List Str:=["self","many"]
def G9 (ns:List Int):MS:=(Aj (retS (Ae (Et ns) (Aa (Df 1 [0] (Om Hw (Aa (Ac 1) nilF)) (Cu 0) (fun _=>pure true) (Dk (fun c n=>(Ft ns).lookup (c,n)) "next_number" (Ac 1) (Aa (kF (.int 2)) nilF))) nilF)))
 Am)
def Ep (ns:List Int):List W->M W:=Ck 2 2 (G9 ns)
theorem Lg (ns:List Int):Cv (Aq Eo) ((md ns).gm (Ea ns) Lf (Ak Eo) (Ft ns))=G9 ns:=by kernel_rfl
def Bg (ns:List Int):List ((Nat×Str)×Fi):=((5,"next_numbers"),⟨Ep ns,2,[]⟩)::Ft ns
abbrev Fv:Stmt:=inClass (top 55) 6
def Nv:List Str:=["self"]
def Il (ns:List Int):MS:=(Aj (ifS (Ay (Bf .Eq (Dk (fun c n=>(Bg ns).lookup (c,n)) "next_signs" (Ac 0) (Aa (kF (.int 1)) nilF)) (kF (.str "i")))) (Aj (retS (Jk (Aa (kF (.str "in")) (Aa (Dk (fun c n=>(Bg ns).lookup (c,n)) "next_signs" (Ac 0) (Aa (Dk (fun c n=>(Bg ns).lookup (c,n)) "next_number" (Ac 0) (Aa (kF (.int 1)) nilF)) nilF)) nilF))))
  Am) Am)
 (Aj (retS (Ao .add (Jk (Aa (kF (.str "out")) nilF)) (Dk (fun c n=>(Bg ns).lookup (c,n)) "next_numbers" (Ac 0) (Aa (kF (.int 2)) nilF))))
 Am))
def Im (ns:List Int):List W->M W:=Ck 1 1 (Il ns)
theorem Ny (ns:List Int):Cv (Aq Fv) ((md ns).gm (Ea ns) Nv (Ak Fv) (Bg ns))=Il ns:=by kernel_rfl
def Di (ns:List Int):List ((Nat×Str)×Fi):=((5,"next_cell"),⟨Im ns,1,[]⟩)::Bg ns
abbrev Gi:Stmt:=inClass (top 55) 7
def Ow:List Str:=["self","key"]
def Ji (ns:List Int):MS:=(Aj (Bo 1 (Dk (fun c n=>(Di ns).lookup (c,n)) "next_key" (Ac 0) nilF))
 (Aj (retS (Jk (Aa (Ac 1) (Aa (Dk (fun c n=>(Di ns).lookup (c,n)) "next_cell" (Ac 0) nilF) nilF))))
 Am))
def Jj (ns:List Int):List W->M W:=Ck 1 2 (Ji ns)
theorem Ox (ns:List Int):Cv (Aq Gi) ((md ns).gm (Ea ns) Ow (Ak Gi) (Di ns))=Ji ns:=by kernel_rfl
def Gj (ns:List Int):List ((Nat×Str)×Fi):=((5,"next_row"),⟨Jj ns,1,[]⟩)::Di ns
abbrev Fw:Stmt:=inClass (top 55) 8
def Nz:List Str:=["self","many"]
def Io (ns:List Int):MS:=(Aj (retS (Ae (Et ns) (Aa (Df 1 [0] (Om Hw (Aa (Ac 1) nilF)) (Cu 0) (fun _=>pure true) (Dk (fun c n=>(Gj ns).lookup (c,n)) "next_row" (Ac 1) nilF)) nilF)))
 Am)
def Fx (ns:List Int):List W->M W:=Ck 2 2 (Io ns)
theorem N5 (ns:List Int):Cv (Aq Fw) ((md ns).gm (Ea ns) Nz (Ak Fw) (Gj ns))=Io ns:=by kernel_rfl
def Ad (ns:List Int):List ((Nat×Str)×Fi):=((5,"next_rows"),⟨Fx ns,2,[]⟩)::Gj ns
abbrev Qa:Stmt:=top 56
def Afv:List Str:=["letter","body","reader","keys","after"]
def Ww (ns:List Int):MS:=(Aj (Bo 2 (Ae (fun ws=>Wi 5 (Gf ns) ws) (Aa (Ac 1) nilF)))
 (Aj (ifS (Ay (Bf .Eq (Ac 0) (kF (.str "h")))) (Aj (retS (Ao .add (Jk (Aa (kF (.str "head")) nilF)) (Dk (fun c n=>(Ad ns).lookup (c,n)) "next_numbers" (Ac 2) (Aa (kF (.int 4)) nilF))))
  Am) Am)
 (Aj (ifS (Ay (Bf .Eq (Ac 0) (kF (.str "l")))) (Aj (retS (Jk (Aa (kF (.str "leaf")) (Aa (Dk (fun c n=>(Ad ns).lookup (c,n)) "next_rows" (Ac 2) (Aa (Dk (fun c n=>(Ad ns).lookup (c,n)) "next_number" (Ac 2) (Aa (kF (.int 1)) nilF)) nilF)) nilF))))
  Am) Am)
 (Aj (ifS (Ay (Bf .Eq (Ac 0) (kF (.str "f")))) (Aj (Bo 3 (Dk (fun c n=>(Ad ns).lookup (c,n)) "next_keys" (Ac 2) (Aa (Dk (fun c n=>(Ad ns).lookup (c,n)) "next_number" (Ac 2) (Aa (kF (.int 1)) nilF)) nilF)))
  (Aj (retS (Jk (Aa (kF (.str "fork")) (Aa (Ac 3) (Aa (Dk (fun c n=>(Ad ns).lookup (c,n)) "next_numbers" (Ac 2) (Aa (Ao .add (Ae (Dd ns) (Aa (Ac 3) nilF)) (kF (.int 1))) nilF)) nilF)))))
  Am)) Am)
 (Aj (ifS (Ay (Bf .Eq (Ac 0) (kF (.str "r")))) (Aj (Bo 4 (Dk (fun c n=>(Ad ns).lookup (c,n)) "next_number" (Ac 2) (Aa (kF (.int 2)) nilF)))
  (Aj (retS (Jk (Aa (kF (.str "rest")) (Aa (Dk (fun c n=>(Ad ns).lookup (c,n)) "next_signs" (Ac 2) (Aa (Ao .sub (Ae (Dd ns) (Aa (Ac 1) nilF)) (kF (.int 2))) nilF)) (Aa (Ac 4) nilF)))))
  Am)) Am)
 (Aj (ifS (Ay (Bf .Eq (Ac 0) (kF (.str "e")))) (Aj (retS (Ao .add (Jk (Aa (kF (.str "free")) nilF)) (Dk (fun c n=>(Ad ns).lookup (c,n)) "next_numbers" (Ac 2) (Aa (kF (.int 1)) nilF))))
  Am) Am)
 (Aj (retS (kF .non))
 Am)))))))
def Qc (ns:List Int):List W->M W:=Ck 2 5 (Ww ns)
theorem Afw (ns:List Int):Cv (Aq Qa) ((md ns).gm (Ea ns) Afv (Ak Qa) (Ad ns))=Ww ns:=by kernel_rfl
def Wx (ns:List Int):List (Str×Fi):=("told_page",⟨Qc ns,2,[]⟩)::Ea ns
abbrev Te:Stmt:=top 15
def Ah4:List Str:=["thing"]
def Y5 (ns:List Int):MS:=(Aj (retS (Ff (Ae (Dq isa) (Aa (Ac 0) (Aa (kF (.ty "int")) nilF))) (Aae (Ae (Dq isa) (Aa (Ac 0) (Aa (kF (.ty "bool")) nilF))))))
 Am)
def Ht (ns:List Int):List W->M W:=Ck 1 1 (Y5 ns)
theorem Ah5 (ns:List Int):Cv (Aq Te) ((md ns).gm (Wx ns) Ah4 (Ak Te) (Ad ns))=Y5 ns:=by kernel_rfl
def Y6 (ns:List Int):List (Str×Fi):=("is_whole",⟨Ht ns,1,[]⟩)::Wx ns
abbrev Y7:Stmt:=top 17
def Ard:List Str:=["number","many","text","left","place"]
def Afx (ns:List Int):MS:=(Aj (ifS (orT (Ld (Ay (Ae (Ht ns) (Aa (Ac 0) nilF)))) (Ay (Bf .Lt (Ac 0) (kF (.int 0))))) (Aj (O4 1 (Aa (kF (.str "no whole number from nought on")) nilF))
  Am) Am)
 (Aj (ifS (orT (Ld (Ay (Ae (Ht ns) (Aa (Ac 1) nilF)))) (orT (Ay (Bf .Lt (Ac 1) (kF (.int 1)))) (Ay (Bf .Gt (Ac 1) (kF (.int 3)))))) (Aj (O4 1 (Aa (kF (.str "a number is written by one to three signs")) nilF))
  Am) Am)
 (Aj (ifS (Ay (Bf .Gt (Ao .shr (Ac 0) (Ao .mul (kF (.int 6)) (Ac 1))) (kF (.int 0)))) (Aj (O4 1 (Aa (kF (.str "a number greater than so many signs write")) nilF))
  Am) Am)
 (Aj (Bo 2 (kF (.str "")))
 (Aj (Bo 3 (Ac 0))
 (Aj (Vh (Om Hw (Aa (Ac 1) nilF)) (Cu 4) (Aj (Bo 2 (Ao .add (ixF ns (kF (.str "0123456789abcdefghijklmnopqrstuvwxyzABCDEFGHIJKLMNOPQRSTUVWXYZ+-")) (Ao .and (Ac 3) (kF (.int 63)))) (Ac 2)))
  (Aj (Bo 3 (Ao .shr (Ac 3) (kF (.int 6))))
  Am)))
 (Aj (retS (Ac 2))
 Am)))))))
def Ga (ns:List Int):List W->M W:=Ck 2 5 (Afx ns)
theorem Are (ns:List Int):Cv (Aq Y7) ((md ns).gm (Y6 ns) Ard (Ak Y7) (Ad ns))=Afx ns:=by kernel_rfl
def Afy (ns:List Int):List (Str×Fi):=("digits",⟨Ga ns,2,[]⟩)::Y6 ns
abbrev Vr:Stmt:=top 16
def Ami:List Str:=["thing"]
def Abh (ns:List Int):MS:=(Aj (retS (Ff (Ae (Dq isa) (Aa (Ac 0) (Aa (kF (.ty "str")) nilF))) (Bf .Eq (Jc .str Acu (Ac 0) (Aa (kF (.str " !\"#$&'()*+,-./0123456789:;<=>?@ABCDEFGHIJKLMNOPQRSTUVWXYZ[\\]^_`abcdefghijklmnopqrstuvwxyz{|}~")) nilF)) (kF (.str "")))))
 Am)
def M4 (ns:List Int):List W->M W:=Ck 1 1 (Abh ns)
theorem Amj (ns:List Int):Cv (Aq Vr) ((md ns).gm (Afy ns) Ami (Ak Vr) (Ad ns))=Abh ns:=by kernel_rfl
def Abi (ns:List Int):List (Str×Fi):=("is_text",⟨M4 ns,1,[]⟩)::Afy ns
abbrev Tf:Stmt:=top 20
def Ah6:List Str:=["text","total"]
def Y8 (ns:List Int):MS:=(Aj (ifS (Ld (Ay (Ae (M4 ns) (Aa (Ac 0) nilF)))) (Aj (O4 2 (Aa (kF (.str "no text")) nilF))
  Am) Am)
 (Aj (Bo 1 (Ae Acr (Aa (Df 2 [] (Aje (Ac 0)) (W9 [0,1]) (fun _=>pure true) (Ao .mul (Ao .sub (Ae Ao8 (Aa (Ac 1) nilF)) (kF (.int 31))) (Ac 0))) nilF)))
 (Aj (retS (Ae (Ga ns) (Aa (Ao .mod (Ac 1) (kF (.int 4093))) (Aa (kF (.int 2)) nilF))))
 Am)))
def N6 (ns:List Int):List W->M W:=Ck 1 2 (Y8 ns)
theorem Ah7 (ns:List Int):Cv (Aq Tf) ((md ns).gm (Abi ns) Ah6 (Ak Tf) (Ad ns))=Y8 ns:=by kernel_rfl
def Y9 (ns:List Int):List (Str×Fi):=("check_of",⟨N6 ns,1,[]⟩)::Abi ns
abbrev Ip:Stmt:=top 57
def Us:List Str:=["text"]
def Lp (ns:List Int):MS:=(Aj (retS (Bf .Eq (Ae (N6 ns) (Aa (slF ns (Ac 0) Bs (Cg (Xc (kF (.int 2))))) nilF)) (slF ns (Ac 0) (Cg (Xc (kF (.int 2)))) Bs)))
 Am)
def Ir (ns:List Int):List W->M W:=Ck 1 1 (Lp ns)
theorem Ut (ns:List Int):Cv (Aq Ip) ((md ns).gm (Y9 ns) Us (Ak Ip) (Ad ns))=Lp ns:=by kernel_rfl
def Lq (ns:List Int):List (Str×Fi):=("has_right_check",⟨Ir ns,1,[]⟩)::Y9 ns
abbrev Kv:Stmt:=top 58
def Za:List Str:=["text","long"]
def Qd (ns:List Int):MS:=(Aj (ifS (Ld (Ay (Ae (Ir ns) (Aa (Ac 0) nilF)))) (Aj (retS (kF .non))
  Am) Am)
 (Aj (Bo 1 (Ae (Ln ns) (Aa (slF ns (Ac 0) (Cg (kF (.int 1))) (Cg (kF (.int 3)))) nilF)))
 (Aj (retS (Ae (Qc ns) (Aa (ixF ns (Ac 0) (kF (.int 0))) (Aa (slF ns (Ac 0) (Cg (kF (.int 3))) (Cg (Ao .add (kF (.int 3)) (Ac 1)))) nilF))))
 Am)))
def Iu (ns:List Int):List W->M W:=Ck 1 2 (Qd ns)
theorem Zb (ns:List Int):Cv (Aq Kv) ((md ns).gm (Lq ns) Za (Ak Kv) (Ad ns))=Qd ns:=by kernel_rfl
def Qe (ns:List Int):List (Str×Fi):=("told_by_text",⟨Iu ns,1,[]⟩)::Lq ns
abbrev Vs:Stmt:=top 40
def Amk:List Str:=["thing"]
def Abj (ns:List Int):MS:=(Aj (ifS (Acv (Ay (Ae (Dq isa) (Aa (Ac 0) (Aa (kF (.ty "tuple")) nilF)))) (Acv (Ay (Bf .Gt (Ae (Dd ns) (Aa (Ac 0) nilF)) (kF (.int 0)))) (Ay (Ae (Dq isa) (Aa (ixF ns (Ac 0) (kF (.int 0))) (Aa (kF (.ty "str")) nilF)))))) (Aj (retS (ixF ns (Ac 0) (kF (.int 0))))
  Am) Am)
 (Aj (retS (kF .non))
 Am))
def Rn (ns:List Int):List W->M W:=Ck 1 1 (Abj ns)
theorem Aml (ns:List Int):Cv (Aq Vs) ((md ns).gm (Qe ns) Amk (Ak Vs) (Ad ns))=Abj ns:=by kernel_rfl
def Abk (ns:List Int):List (Str×Fi):=("word_of",⟨Rn ns,1,[]⟩)::Qe ns
abbrev Zc:Stmt:=top 24
def Arf:List Str:=["thing"]
def Afz (ns:List Int):MS:=(Aj (retS (Ff (Ae (M4 ns) (Aa (Ac 0) nilF)) (Kp .LtE .LtE (kF (.int 1)) (Ae (Dd ns) (Aa (Ac 0) nilF)) (kF (.int 12)))))
 Am)
def M5 (ns:List Int):List W->M W:=Ck 1 1 (Afz ns)
theorem Arh (ns:List Int):Cv (Aq Zc) ((md ns).gm (Abk ns) Arf (Ak Zc) (Ad ns))=Afz ns:=by kernel_rfl
def Af0 (ns:List Int):List (Str×Fi):=("is_key",⟨M5 ns,1,[]⟩)::Abk ns
abbrev Iv:Stmt:=top 41
def Uu:List Str:=["keys"]
def Lr (ns:List Int):MS:=(Aj (ifS (Ld (Ay (Ae Ol (Aa (Df 1 [] (Eh ns (Ac 0)) (Cu 0) (fun _=>pure true) (Ae (M5 ns) (Aa (Ac 0) nilF))) nilF)))) (Aj (retS (kF (.bl false)))
  Am) Am)
 (Aj (retS (Ae Ol (Aa (Df 2 [] (Al3 (Aa (Ac 0) (Aa (slF ns (Ac 0) (Cg (kF (.int 1))) Bs) nilF))) (W9 [0,1]) (fun _=>pure true) (Bf .Lt (Ac 0) (Ac 1))) nilF)))
 Am))
def Ec (ns:List Int):List W->M W:=Ck 1 1 (Lr ns)
theorem Uv (ns:List Int):Cv (Aq Iv) ((md ns).gm (Af0 ns) Uu (Ak Iv) (Ad ns))=Lr ns:=by kernel_rfl
def Ls (ns:List Int):List (Str×Fi):=("are_rising_keys",⟨Ec ns,1,[]⟩)::Af0 ns
abbrev Mm:Stmt:=top 39
def Aan:List Str:=["thing","many"]
def Sd (ns:List Int):MS:=(Aj (retS (Ff (Ae (Dq isa) (Aa (Ac 0) (Aa (kF (.ty "tuple")) nilF))) (Bf .Eq (Ae (Dd ns) (Aa (Ac 0) nilF)) (Ac 1))))
 Am)
def Hn (ns:List Int):List W->M W:=Ck 2 2 (Sd ns)
theorem Aao (ns:List Int):Cv (Aq Mm) ((md ns).gm (Ls ns) Aan (Ak Mm) (Ad ns))=Sd ns:=by kernel_rfl
def Sg (ns:List Int):List (Str×Fi):=("is_tuple_of",⟨Hn ns,2,[]⟩)::Ls ns
abbrev N7:Stmt:=top 38
def Adm:List Str:=["thing","least","most"]
def Uw (ns:List Int):MS:=(Aj (retS (Ff (Ae (M4 ns) (Aa (Ac 0) nilF)) (Kp .LtE .LtE (Ac 1) (Ae (Dd ns) (Aa (Ac 0) nilF)) (Ac 2))))
 Am)
def Ke (ns:List Int):List W->M W:=Ck 3 3 (Uw ns)
theorem Adn (ns:List Int):Cv (Aq N7) ((md ns).gm (Sg ns) Adm (Ak N7) (Ad ns))=Uw ns:=by kernel_rfl
def Ux (ns:List Int):List (Str×Fi):=("is_text_of",⟨Ke ns,3,[]⟩)::Sg ns
abbrev Cw:Stmt:=top 37
def Af1:List Str:=["thing","least"]
def Wy (ns:List Int):MS:=(Aj (retS (Ff (Ae (Ht ns) (Aa (Ac 0) nilF)) (Kp .LtE .LtE (Ac 1) (Ac 0) (kF (.int 4095)))))
 Am)
def Eg (ns:List Int):List W->M W:=Ck 2 2 (Wy ns)
theorem Af2 (ns:List Int):Cv (Aq Cw) ((md ns).gm (Ux ns) Af1 (Ak Cw) (Ad ns))=Wy ns:=by kernel_rfl
def Wz (ns:List Int):List (Str×Fi):=("is_number",⟨Eg ns,2,[(.int 0)]⟩)::Ux ns
abbrev Vt:Stmt:=top 42
def Amm:List Str:=["thing","word"]
def Abl (ns:List Int):MS:=(Aj (Bo 1 (Ae (Rn ns) (Aa (Ac 0) nilF)))
 (Aj (ifS (Ay (Bf .Eq (Ac 1) (kF (.str "in")))) (Aj (retS (Ff (Bf .Eq (Ae (Dd ns) (Aa (Ac 0) nilF)) (kF (.int 2))) (Ae (Ke ns) (Aa (ixF ns (Ac 0) (kF (.int 1))) (Aa (kF (.int 0)) (Aa (kF (.int 63)) nilF))))))
  Am) Am)
 (Aj (ifS (Ay (Bf .Eq (Ac 1) (kF (.str "out")))) (Aj (retS (Ff (Bf .Eq (Ae (Dd ns) (Aa (Ac 0) nilF)) (kF (.int 3))) (Ff (Ae (Ht ns) (Aa (ixF ns (Ac 0) (kF (.int 1))) nilF)) (Ff (Kp .LtE .LtE (kF (.int 1)) (ixF ns (Ac 0) (kF (.int 1))) (kF (.int 400))) (Ae (Eg ns) (Aa (ixF ns (Ac 0) (kF (.int 2))) (Aa (kF (.int 1)) nilF)))))))
  Am) Am)
 (Aj (retS (kF (.bl false)))
 Am))))
def Ro (ns:List Int):List W->M W:=Ck 1 2 (Abl ns)
theorem Amn (ns:List Int):Cv (Aq Vt) ((md ns).gm (Wz ns) Amm (Ak Vt) (Ad ns))=Abl ns:=by kernel_rfl
def Abm (ns:List Int):List (Str×Fi):=("is_cell",⟨Ro ns,1,[]⟩)::Wz ns
abbrev Ti:Stmt:=top 43
def Ah8:List Str:=["thing"]
def Zd (ns:List Int):MS:=(Aj (ifS (orT (Ld (Ay (Ae (Dq isa) (Aa (Ac 0) (Aa (kF (.ty "tuple")) nilF))))) (Ay (Bf .Gt (Ae (Dd ns) (Aa (Ac 0) nilF)) (kF (.int 63))))) (Aj (retS (kF (.bl false)))
  Am) Am)
 (Aj (ifS (Ld (Ay (Ae Ol (Aa (Df 1 [] (Eh ns (Ac 0)) (Cu 0) (fun _=>pure true) (Ff (Ae (Hn ns) (Aa (Ac 0) (Aa (kF (.int 2)) nilF))) (Ae (Ro ns) (Aa (ixF ns (Ac 0) (kF (.int 1))) nilF)))) nilF)))) (Aj (retS (kF (.bl false)))
  Am) Am)
 (Aj (retS (Ae (Ec ns) (Aa (Df 1 [] (Eh ns (Ac 0)) (Cu 0) (fun _=>pure true) (ixF ns (Ac 0) (kF (.int 0)))) nilF)))
 Am)))
def Tj (ns:List Int):List W->M W:=Ck 1 1 (Zd ns)
theorem Ah9 (ns:List Int):Cv (Aq Ti) ((md ns).gm (Abm ns) Ah8 (Ak Ti) (Ad ns))=Zd ns:=by kernel_rfl
def Ze (ns:List Int):List (Str×Fi):=("are_rows",⟨Tj ns,1,[]⟩)::Abm ns
abbrev Tn:Stmt:=top 44
def Aia:List Str:=["thing"]
def Zf (ns:List Int):MS:=(Aj (retS (Ff (Ae (Dq isa) (Aa (Ac 0) (Aa (kF (.ty "tuple")) nilF))) (Ff (Bf .LtE (Ae (Dd ns) (Aa (Ac 0) nilF)) (kF (.int 63))) (Ae (Ec ns) (Aa (Ac 0) nilF)))))
 Am)
def Tp (ns:List Int):List W->M W:=Ck 1 1 (Zf ns)
theorem Aib (ns:List Int):Cv (Aq Tn) ((md ns).gm (Ze ns) Aia (Ak Tn) (Ad ns))=Zf ns:=by kernel_rfl
def Zg (ns:List Int):List (Str×Fi):=("are_keys",⟨Tp ns,1,[]⟩)::Ze ns
abbrev Tq:Stmt:=top 45
def Aic:List Str:=["thing","many"]
def Zh (ns:List Int):MS:=(Aj (retS (Ff (Ae (Hn ns) (Aa (Ac 0) (Aa (Ac 1) nilF))) (Ae Ol (Aa (Df 1 [] (Eh ns (Ac 0)) (Cu 0) (fun _=>pure true) (Ae (Eg ns) (Aa (Ac 0) (Aa (kF (.int 1)) nilF)))) nilF))))
 Am)
def Tr (ns:List Int):List W->M W:=Ck 2 2 (Zh ns)
theorem Aid (ns:List Int):Cv (Aq Tq) ((md ns).gm (Zg ns) Aic (Ak Tq) (Ad ns))=Zh ns:=by kernel_rfl
def Zi (ns:List Int):List (Str×Fi):=("are_kids",⟨Tr ns,2,[]⟩)::Zg ns
abbrev Vu:Stmt:=top 46
def Amo:List Str:=["thing","word"]
def Abn (ns:List Int):MS:=(Aj (Bo 1 (Ae (Rn ns) (Aa (Ac 0) nilF)))
 (Aj (ifS (Ay (Bf .Eq (Ac 1) (kF (.str "head")))) (Aj (retS (Ff (Bf .Eq (Ae (Dd ns) (Aa (Ac 0) nilF)) (kF (.int 5))) (Ae Ol (Aa (Df 1 [] (Eh ns (slF ns (Ac 0) (Cg (kF (.int 1))) Bs)) (Cu 0) (fun _=>pure true) (Ae (fun ws=>Eg ns (ws ++ [(.int 0)])) (Aa (Ac 0) nilF))) nilF))))
  Am) Am)
 (Aj (ifS (Ay (Bf .Eq (Ac 1) (kF (.str "leaf")))) (Aj (retS (Ff (Bf .Eq (Ae (Dd ns) (Aa (Ac 0) nilF)) (kF (.int 2))) (Ae (Tj ns) (Aa (ixF ns (Ac 0) (kF (.int 1))) nilF))))
  Am) Am)
 (Aj (ifS (Ay (Bf .Eq (Ac 1) (kF (.str "fork")))) (Aj (retS (Ff (Bf .Eq (Ae (Dd ns) (Aa (Ac 0) nilF)) (kF (.int 3))) (Ff (Ae (Tp ns) (Aa (ixF ns (Ac 0) (kF (.int 1))) nilF)) (Ae (Tr ns) (Aa (ixF ns (Ac 0) (kF (.int 2))) (Aa (Ao .add (Ae (Dd ns) (Aa (ixF ns (Ac 0) (kF (.int 1))) nilF)) (kF (.int 1))) nilF))))))
  Am) Am)
 (Aj (ifS (Ay (Bf .Eq (Ac 1) (kF (.str "rest")))) (Aj (retS (Ff (Bf .Eq (Ae (Dd ns) (Aa (Ac 0) nilF)) (kF (.int 3))) (Ff (Ae (Ke ns) (Aa (ixF ns (Ac 0) (kF (.int 1))) (Aa (kF (.int 1)) (Aa (kF (.int 400)) nilF)))) (Ae (fun ws=>Eg ns (ws ++ [(.int 0)])) (Aa (ixF ns (Ac 0) (kF (.int 2))) nilF)))))
  Am) Am)
 (Aj (ifS (Ay (Bf .Eq (Ac 1) (kF (.str "free")))) (Aj (retS (Ff (Bf .Eq (Ae (Dd ns) (Aa (Ac 0) nilF)) (kF (.int 2))) (Ae (fun ws=>Eg ns (ws ++ [(.int 0)])) (Aa (ixF ns (Ac 0) (kF (.int 1))) nilF))))
  Am) Am)
 (Aj (retS (kF (.bl false)))
 Am)))))))
def M6 (ns:List Int):List W->M W:=Ck 1 2 (Abn ns)
theorem Amp (ns:List Int):Cv (Aq Vu) ((md ns).gm (Zi ns) Amo (Ak Vu) (Ad ns))=Abn ns:=by kernel_rfl
def Abo (ns:List Int):List (Str×Fi):=("is_page",⟨M6 ns,1,[]⟩)::Zi ns
abbrev Jq:Stmt:=top 53
def Vv:List Str:=["page","body","size","start"]
def M7 (ns:List Int):MS:=(Aj (Bo 3 (Ao .add (Ao .add (mdF Gb (ixF ns (Ac 0) (kF (.int 0)))) (Ae (Ga ns) (Aa (Ae (Dd ns) (Aa (Ac 1) nilF)) (Aa (kF (.int 2)) nilF)))) (Ac 1)))
 (Aj (retS (Jc .str Acs (Ac 3) (Aa (Ao .sub (Ac 2) (kF (.int 2))) (Aa (kF (.str "0")) nilF))))
 Am))
def G4 (ns:List Int):List W->M W:=Ck 3 4 (M7 ns)
theorem Vw (ns:List Int):Cv (Aq Jq) ((md ns).gm (Abo ns) Vv (Ak Jq) (Ad ns))=M7 ns:=by kernel_rfl
def M8 (ns:List Int):List (Str×Fi):=("unchecked_text",⟨G4 ns,3,[]⟩)::Abo ns
abbrev Vx:Stmt:=top 35
def Amq:List Str:=["thing"]
def Abp (ns:List Int):MS:=(Aj (retS (Ff (Ae (Ht ns) (Aa (Ac 0) nilF)) (Kp .LtE .LtE (kF (.int 64)) (Ac 0) (kF (.int 200)))))
 Am)
def Rp (ns:List Int):List W->M W:=Ck 1 1 (Abp ns)
theorem Amr (ns:List Int):Cv (Aq Vx) ((md ns).gm (M8 ns) Amq (Ak Vx) (Ad ns))=Abp ns:=by kernel_rfl
def Abq (ns:List Int):List (Str×Fi):=("is_size",⟨Rp ns,1,[]⟩)::M8 ns
abbrev Kw:Stmt:=top 47
def Zj:List Str:=["numbers"]
def Qf (ns:List Int):MS:=(Aj (retS (Jc .str Ko (kF (.str "")) (Aa (Df 1 [] (Eh ns (Ac 0)) (Cu 0) (fun _=>pure true) (Ae (Ga ns) (Aa (Ac 0) (Aa (kF (.int 2)) nilF)))) nilF)))
 Am)
def Fe (ns:List Int):List W->M W:=Ck 1 1 (Qf ns)
theorem Zk (ns:List Int):Cv (Aq Kw) ((md ns).gm (Abq ns) Zj (Ak Kw) (Ad ns))=Qf ns:=by kernel_rfl
def Qg (ns:List Int):List (Str×Fi):=("numbers_text",⟨Fe ns,1,[]⟩)::Abq ns
abbrev Tt:Stmt:=top 48
def Aie:List Str:=["key"]
def Zm (ns:List Int):MS:=(Aj (retS (Ao .add (Ae (Ga ns) (Aa (Ae (Dd ns) (Aa (Ac 0) nilF)) (Aa (kF (.int 1)) nilF))) (Ac 0)))
 Am)
def Ky (ns:List Int):List W->M W:=Ck 1 1 (Zm ns)
theorem Aif (ns:List Int):Cv (Aq Tt) ((md ns).gm (Qg ns) Aie (Ak Tt) (Ad ns))=Zm ns:=by kernel_rfl
def Zn (ns:List Int):List (Str×Fi):=("key_text",⟨Ky ns,1,[]⟩)::Qg ns
abbrev Qh:Stmt:=top 49
def Af3:List Str:=["cell"]
def W0 (ns:List Int):MS:=(Aj (ifS (Ay (Bf .Eq (ixF ns (Ac 0) (kF (.int 0))) (kF (.str "in")))) (Aj (retS (Ao .add (Ao .add (kF (.str "i")) (Ae (Ga ns) (Aa (Ae (Dd ns) (Aa (ixF ns (Ac 0) (kF (.int 1))) nilF)) (Aa (kF (.int 1)) nilF)))) (ixF ns (Ac 0) (kF (.int 1)))))
  Am) Am)
 (Aj (retS (Ao .add (kF (.str "o")) (Ae (Fe ns) (Aa (slF ns (Ac 0) (Cg (kF (.int 1))) Bs) nilF))))
 Am))
def Qi (ns:List Int):List W->M W:=Ck 1 1 (W0 ns)
theorem Af4 (ns:List Int):Cv (Aq Qh) ((md ns).gm (Zn ns) Af3 (Ak Qh) (Ad ns))=W0 ns:=by kernel_rfl
def W2 (ns:List Int):List (Str×Fi):=("cell_text",⟨Qi ns,1,[]⟩)::Zn ns
abbrev Tu:Stmt:=top 50
def Aig:List Str:=["row"]
def Zo (ns:List Int):MS:=(Aj (retS (Ao .add (Ae (Ky ns) (Aa (ixF ns (Ac 0) (kF (.int 0))) nilF)) (Ae (Qi ns) (Aa (ixF ns (Ac 0) (kF (.int 1))) nilF))))
 Am)
def N8 (ns:List Int):List W->M W:=Ck 1 1 (Zo ns)
theorem Aih (ns:List Int):Cv (Aq Tu) ((md ns).gm (W2 ns) Aig (Ak Tu) (Ad ns))=Zo ns:=by kernel_rfl
def Zq (ns:List Int):List (Str×Fi):=("row_text",⟨N8 ns,1,[]⟩)::W2 ns
abbrev Qj:Stmt:=top 51
def Af5:List Str:=["page","keys"]
def W3 (ns:List Int):MS:=(Aj (ifS (Ay (Bf .Eq (ixF ns (Ac 0) (kF (.int 0))) (kF (.str "leaf")))) (Aj (retS (Ao .add (Ae (Ga ns) (Aa (Ae (Dd ns) (Aa (ixF ns (Ac 0) (kF (.int 1))) nilF)) (Aa (kF (.int 1)) nilF))) (Jc .str Ko (kF (.str "")) (Aa (Df 1 [] (Eh ns (ixF ns (Ac 0) (kF (.int 1)))) (Cu 0) (fun _=>pure true) (Ae (N8 ns) (Aa (Ac 0) nilF))) nilF))))
  Am) Am)
 (Aj (ifS (Ay (Bf .Eq (ixF ns (Ac 0) (kF (.int 0))) (kF (.str "fork")))) (Aj (Bo 1 (Jc .str Ko (kF (.str "")) (Aa (Df 1 [] (Eh ns (ixF ns (Ac 0) (kF (.int 1)))) (Cu 0) (fun _=>pure true) (Ae (Ky ns) (Aa (Ac 0) nilF))) nilF)))
  (Aj (retS (Ao .add (Ao .add (Ae (Ga ns) (Aa (Ae (Dd ns) (Aa (ixF ns (Ac 0) (kF (.int 1))) nilF)) (Aa (kF (.int 1)) nilF))) (Ac 1)) (Ae (Fe ns) (Aa (ixF ns (Ac 0) (kF (.int 2))) nilF))))
  Am)) Am)
 (Aj (ifS (Ay (Bf .Eq (ixF ns (Ac 0) (kF (.int 0))) (kF (.str "rest")))) (Aj (retS (Ao .add (Ae (Fe ns) (Aa (slF ns (Ac 0) (Cg (kF (.int 2))) Bs) nilF)) (ixF ns (Ac 0) (kF (.int 1)))))
  Am) Am)
 (Aj (retS (Ae (Fe ns) (Aa (slF ns (Ac 0) (Cg (kF (.int 1))) Bs) nilF)))
 Am))))
def Lw (ns:List Int):List W->M W:=Ck 1 2 (W3 ns)
theorem Af6 (ns:List Int):Cv (Aq Qj) ((md ns).gm (Zq ns) Af5 (Ak Qj) (Ad ns))=W3 ns:=by kernel_rfl
def W4 (ns:List Int):List (Str×Fi):=("body_text",⟨Lw ns,1,[]⟩)::Zq ns
abbrev Vy:Stmt:=top 59
def Ams:List Str:=["text","page"]
def Abr (ns:List Int):MS:=(Aj (ifS (orT (Ld (Ay (Ae (Dq isa) (Aa (Ac 0) (Aa (kF (.ty "str")) nilF))))) (Ld (Ay (Ae (Rp ns) (Aa (Ae (Dd ns) (Aa (Ac 0) nilF)) nilF))))) (Aj (J9 4 [] (Aa (kF .non) (Aa (kF (.str "no text of a size from 64 to 200")) nilF)))
  Am) Am)
 (Aj (Al1 (Aj (Bo 1 (Ae (Iu ns) (Aa (Ac 0) nilF)))
  Am))
 (Aj (ifS (Ld (Ay (Ae (M6 ns) (Aa (Ac 1) nilF)))) (Aj (J9 4 [] (Aa (kF .non) (Aa (kF (.str "a text that tells no page")) nilF)))
  Am) Am)
 (Aj (ifS (Ay (Bf .NotEq (Ae (G4 ns) (Aa (Ac 1) (Aa (Ae (Lw ns) (Aa (Ac 1) nilF)) (Aa (Ae (Dd ns) (Aa (Ac 0) nilF)) nilF)))) (slF ns (Ac 0) Bs (Cg (Xc (kF (.int 2))))))) (Aj (J9 4 [] (Aa (kF .non) (Aa (kF (.str "a text that isn't as its page's")) nilF)))
  Am) Am)
 (Aj (retS (Ac 1))
 Am)))))
def Dp (ns:List Int):List W->M W:=Ck 1 2 (Abr ns)
theorem Amt (ns:List Int):Cv (Aq Vy) ((md ns).gm (W4 ns) Ams (Ak Vy) (Ad ns))=Abr ns:=by kernel_rfl
def Abs (ns:List Int):List (Str×Fi):=("page_of",⟨Dp ns,1,[]⟩)::W4 ns
abbrev Kz:Stmt:=top 74
def Zr:List Str:=["_law_text_here","e"]
def Qk (ns:List Int):MS:=(Aj (Al0 (exm 0) 1 (Aj (Rz (Ae (Dp ns) (Aa (Ac 0) nilF)))
  Am) (Aj (ifS (orT (Ld (Ay (Ae (Dq isa) (Aa (Ac 1) (Aa (kF (.cls 4)) nilF))))) (orT (Ld (Ay (Ae (Dq isa) (Aa (Ac 1) (Aa (kF (.ty "ValueError")) nilF))))) (Ay (Ae (Dq isa) (Aa (Ac 1) (Aa (kF (.cls 2)) nilF)))))) (Aj (retS (kF (.bl false)))
   Am) Am)
  (Aj (retS (Bf .Is (Xb fld "number" (Ac 1)) (kF .non)))
  Am)))
 (Aj (retS (kF (.bl false)))
 Am))
def Gv (ns:List Int):List W->M W:=Ck 1 2 (Qk ns)
theorem Zt (ns:List Int):Cv (Aq Kz) ((md ns).gm (Abs ns) Zr (Ak Kz) (Ad ns))=Qk ns:=by kernel_rfl
def Ql (ns:List Int):List (Str×Fi):=("_law_refused",⟨Gv ns,1,[]⟩)::Abs ns
abbrev Dj:Stmt:=top 73
def G5:List Str:=["_law_thing"]
def Qm (ns:List Int):MS:=(Aj (ifS (Ay (Ae (Dq isa) (Aa (Ac 0) (Aa (kF (.ty "tuple")) nilF)))) (Aj (retS (Ae Ol (Aa (Df 1 [] (Eh ns (Ac 0)) (Cu 0) (fun _=>pure true) Dv) nilF)))
  Am) Am)
 (Aj (retS (orF (Ae (Dq isa) (Aa (Ac 0) (Aa (kF (.ty "str")) nilF))) (Ff (Ae (Dq isa) (Aa (Ac 0) (Aa (kF (.ty "int")) nilF))) (Aae (Ae (Dq isa) (Aa (Ac 0) (Aa (kF (.ty "bool")) nilF)))))))
 Am))
def K1 (ns:List Int):List W->M W:=Ck 1 1 (Qm ns)
theorem Zu (ns:List Int):Cv (Aq Dj) ((md ns).gm (Ql ns) G5 (Ak Dj) (Ad ns))=Qm ns:=by kernel_rfl
def Qn (ns:List Int):List (Str×Fi):=("_law_plain",⟨K1 ns,1,[]⟩)::Ql ns
def Qo (ns:List Int):MS:=(Aj (ifS (Ay (Ae (Dq isa) (Aa (Ac 0) (Aa (kF (.ty "tuple")) nilF)))) (Aj (retS (Ae Ol (Aa (Df 1 [] (Eh ns (Ac 0)) (Cu 0) (fun _=>pure true) (Ae (K1 ns) (Aa (Ac 0) nilF))) nilF)))
  Am) Am)
 (Aj (retS (orF (Ae (Dq isa) (Aa (Ac 0) (Aa (kF (.ty "str")) nilF))) (Ff (Ae (Dq isa) (Aa (Ac 0) (Aa (kF (.ty "int")) nilF))) (Aae (Ae (Dq isa) (Aa (Ac 0) (Aa (kF (.ty "bool")) nilF)))))))
 Am))
def Qp (ns:List Int):List W->M W:=Ck 1 1 (Qo ns)
theorem Zv (ns:List Int):Cv (Aq Dj) ((md ns).gm (Qn ns) G5 (Ak Dj) (Ad ns))=Qo ns:=by kernel_rfl
def Qq (ns:List Int):List (Str×Fi):=("_law_plain",⟨Qp ns,1,[]⟩)::Qn ns
def Qs (ns:List Int):MS:=(Aj (ifS (Ay (Ae (Dq isa) (Aa (Ac 0) (Aa (kF (.ty "tuple")) nilF)))) (Aj (retS (Ae Ol (Aa (Df 1 [] (Eh ns (Ac 0)) (Cu 0) (fun _=>pure true) (Ae (Qp ns) (Aa (Ac 0) nilF))) nilF)))
  Am) Am)
 (Aj (retS (orF (Ae (Dq isa) (Aa (Ac 0) (Aa (kF (.ty "str")) nilF))) (Ff (Ae (Dq isa) (Aa (Ac 0) (Aa (kF (.ty "int")) nilF))) (Aae (Ae (Dq isa) (Aa (Ac 0) (Aa (kF (.ty "bool")) nilF)))))))
 Am))
def Qt (ns:List Int):List W->M W:=Ck 1 1 (Qs ns)
theorem Zw (ns:List Int):Cv (Aq Dj) ((md ns).gm (Qq ns) G5 (Ak Dj) (Ad ns))=Qs ns:=by kernel_rfl
def Qu (ns:List Int):List (Str×Fi):=("_law_plain",⟨Qt ns,1,[]⟩)::Qq ns
def Qv (ns:List Int):MS:=(Aj (ifS (Ay (Ae (Dq isa) (Aa (Ac 0) (Aa (kF (.ty "tuple")) nilF)))) (Aj (retS (Ae Ol (Aa (Df 1 [] (Eh ns (Ac 0)) (Cu 0) (fun _=>pure true) (Ae (Qt ns) (Aa (Ac 0) nilF))) nilF)))
  Am) Am)
 (Aj (retS (orF (Ae (Dq isa) (Aa (Ac 0) (Aa (kF (.ty "str")) nilF))) (Ff (Ae (Dq isa) (Aa (Ac 0) (Aa (kF (.ty "int")) nilF))) (Aae (Ae (Dq isa) (Aa (Ac 0) (Aa (kF (.ty "bool")) nilF)))))))
 Am))
def Qw (ns:List Int):List W->M W:=Ck 1 1 (Qv ns)
theorem Zx (ns:List Int):Cv (Aq Dj) ((md ns).gm (Qu ns) G5 (Ak Dj) (Ad ns))=Qv ns:=by kernel_rfl
def Qx (ns:List Int):List (Str×Fi):=("_law_plain",⟨Qw ns,1,[]⟩)::Qu ns
def Qy (ns:List Int):MS:=(Aj (ifS (Ay (Ae (Dq isa) (Aa (Ac 0) (Aa (kF (.ty "tuple")) nilF)))) (Aj (retS (Ae Ol (Aa (Df 1 [] (Eh ns (Ac 0)) (Cu 0) (fun _=>pure true) (Ae (Qw ns) (Aa (Ac 0) nilF))) nilF)))
  Am) Am)
 (Aj (retS (orF (Ae (Dq isa) (Aa (Ac 0) (Aa (kF (.ty "str")) nilF))) (Ff (Ae (Dq isa) (Aa (Ac 0) (Aa (kF (.ty "int")) nilF))) (Aae (Ae (Dq isa) (Aa (Ac 0) (Aa (kF (.ty "bool")) nilF)))))))
 Am))
def Qz (ns:List Int):List W->M W:=Ck 1 1 (Qy ns)
theorem Zy (ns:List Int):Cv (Aq Dj) ((md ns).gm (Qx ns) G5 (Ak Dj) (Ad ns))=Qy ns:=by kernel_rfl
def Q0 (ns:List Int):List (Str×Fi):=("_law_plain",⟨Qz ns,1,[]⟩)::Qx ns
def Q3 (ns:List Int):MS:=(Aj (ifS (Ay (Ae (Dq isa) (Aa (Ac 0) (Aa (kF (.ty "tuple")) nilF)))) (Aj (retS (Ae Ol (Aa (Df 1 [] (Eh ns (Ac 0)) (Cu 0) (fun _=>pure true) (Ae (Qz ns) (Aa (Ac 0) nilF))) nilF)))
  Am) Am)
 (Aj (retS (orF (Ae (Dq isa) (Aa (Ac 0) (Aa (kF (.ty "str")) nilF))) (Ff (Ae (Dq isa) (Aa (Ac 0) (Aa (kF (.ty "int")) nilF))) (Aae (Ae (Dq isa) (Aa (Ac 0) (Aa (kF (.ty "bool")) nilF)))))))
 Am))
def Q4 (ns:List Int):List W->M W:=Ck 1 1 (Q3 ns)
theorem Zz (ns:List Int):Cv (Aq Dj) ((md ns).gm (Q0 ns) G5 (Ak Dj) (Ad ns))=Q3 ns:=by kernel_rfl
def Q5 (ns:List Int):List (Str×Fi):=("_law_plain",⟨Q4 ns,1,[]⟩)::Q0 ns
abbrev Uy (ns:List Int):List W->M W:=Q4 ns
abbrev Vz:Stmt:=top 52
def Amu:List Str:=["page"]
def Abt (ns:List Int):MS:=(Aj (ifS (Ld (Ay (Ae (M6 ns) (Aa (Ac 0) nilF)))) (Aj (J9 4 [] (Aa (kF .non) (Aa (kF (.str "no page")) nilF)))
  Am) Am)
 (Aj (retS (Ae (Lw ns) (Aa (Ac 0) nilF)))
 Am))
def V0 (ns:List Int):List W->M W:=Ck 1 1 (Abt ns)
theorem Amv (ns:List Int):Cv (Aq Vz) ((md ns).gm (Q5 ns) Amu (Ak Vz) (Ad ns))=Abt ns:=by kernel_rfl
def Abu (ns:List Int):List (Str×Fi):=("body_of",⟨V0 ns,1,[]⟩)::Q5 ns
abbrev V1:Stmt:=top 36
def Amw:List Str:=["size"]
def Abv (ns:List Int):MS:=(Aj (retS (Ao .sub (Ac 0) (kF (.int 5))))
 Am)
def V2 (ns:List Int):List W->M W:=Ck 1 1 (Abv ns)
theorem Amx (ns:List Int):Cv (Aq V1) ((md ns).gm (Abu ns) Amw (Ak V1) (Ad ns))=Abv ns:=by kernel_rfl
def Abw (ns:List Int):List (Str×Fi):=("room_of",⟨V2 ns,1,[]⟩)::Abu ns
abbrev Q6:Stmt:=top 54
def Af7:List Str:=["page","size","body","text"]
def W5 (ns:List Int):MS:=(Aj (Bo 2 (Ae (V0 ns) (Aa (Ac 0) nilF)))
 (Aj (ifS (Ld (Ay (Ae (Rp ns) (Aa (Ac 1) nilF)))) (Aj (O4 3 (Aa (kF (.str "no size from 64 to 200")) nilF))
  Am) Am)
 (Aj (ifS (Ay (Bf .Gt (Ae (Dd ns) (Aa (Ac 2) nilF)) (Ae (V2 ns) (Aa (Ac 1) nilF)))) (Aj (J9 4 [] (Aa (kF .non) (Aa (kF (.str "a page that is too long for its size")) nilF)))
  Am) Am)
 (Aj (Bo 3 (Ae (G4 ns) (Aa (Ac 0) (Aa (Ac 2) (Aa (Ac 1) nilF)))))
 (Aj (retS (Ao .add (Ac 3) (Ae (N6 ns) (Aa (Ac 3) nilF))))
 Am)))))
def Q7 (ns:List Int):List W->M W:=Ck 2 4 (W5 ns)
theorem Af8 (ns:List Int):Cv (Aq Q6) ((md ns).gm (Abw ns) Af7 (Ak Q6) (Ad ns))=W5 ns:=by kernel_rfl
def Af9 (ns:List Int):List (Str×Fi):=("page_text",⟨Q7 ns,2,[]⟩)::Abw ns
abbrev Abx:Stmt:=top 75
def Bfd:List Str:=["_law_script","_law_state","_law_size","_law_page_here","_law_text_here","_law_good","_law_turn","_law_number","_law_at","_law_signs_here","_law_step","_law_here","_law_other","_law_bent","_law_more","_law_is_other","_law_odd"]
def Ax4 (ns:List Int):MS:=(Aj (Bo 1 (Oh [((kF (.str "cells")),(Ac 0)),((kF (.str "at")),(kF (.int 0)))]))
 (Aj (Bo 2 (ixF ns (Oj (Aa (kF (.int 64)) (Aa (kF (.int 200)) (Aa (Ao .add (kF (.int 64)) (Ao .mod (Ae (By ns) (Aa (Ac 1) nilF)) (kF (.int 137)))) nilF)))) (Ao .mod (Ae (By ns) (Aa (Ac 1) nilF)) (kF (.int 3)))))
 (Aj (Bo 3 (Ae (Pz ns) (Aa (Ac 1) (Aa (Ac 2) nilF))))
 (Aj (Bo 4 (Ae (Jp ns) (Aa (Ac 3) (Aa (Ac 2) nilF))))
 (Aj (ifS (orT (Ay (Bf .NotEq (Ae (Dp ns) (Aa (Ac 4) nilF)) (Ac 3))) (Ld (Ay (Ae (Uy ns) (Aa (Ae (Dp ns) (Aa (Ac 4) nilF)) nilF))))) (Aj (retS (kF (.bl false)))
  Am) Am)
 (Aj (ifS (Ay (Bf .NotEq (Ae (Dp ns) (Aa (Ae (Q7 ns) (Aa (Ac 3) (Aa (Ac 2) nilF))) nilF)) (Ac 3))) (Aj (retS (kF (.bl false)))
  Am) Am)
 (Aj (Bo 5 (kF (.bl true)))
 (Aj (Vh (Om Hw (Aa (kF (.int 6)) nilF)) (Cu 6) (Aj (Bo 7 (Ae (By ns) (Aa (Ac 1) nilF)))
  (Aj (Bo 8 (Ao .mod (Ao .fdiv (Ac 7) (kF (.int 4))) (Ac 2)))
  (Aj (Bo 9 (Ae (Gz ns) nilF))
  (Aj (Bo 10 (Ao .add (kF (.int 1)) (Ao .mod (Ao .fdiv (Ac 7) (kF (.int 900))) (Ao .sub (Ae (Dd ns) (Aa (Ac 9) nilF)) (kF (.int 1))))))
  (Aj (Bo 11 (Jc .str Nh (Ac 9) (Aa (ixF ns (Ac 4) (Ac 8)) nilF)))
  (Aj (Bo 12 (ixF ns (Ac 9) (Ao .mod (Ao .add (Ac 11) (Ac 10)) (Ae (Dd ns) (Aa (Ac 9) nilF)))))
  (Aj (ifS (Ay (Bf .Eq (Ao .mod (Ac 7) (kF (.int 4))) (kF (.int 1)))) (Aj (Bo 8 (Ae Alv (Aa (Ac 8) (Aa (Ao .sub (Ac 2) (kF (.int 2))) nilF))))
   (Aj (Bo 13 (Ao .add (slF ns (Ac 4) Bs (Cg (Ac 8))) (ixF ns (Ac 4) (Ao .add (Ac 8) (kF (.int 1))))))
   (Aj (Bo 13 (Ao .add (Ac 13) (ixF ns (Ac 4) (Ac 8))))
   (Aj (Bo 13 (Ao .add (Ac 13) (slF ns (Ac 4) (Cg (Ao .add (Ac 8) (kF (.int 2)))) Bs)))
   Am)))) (Aj (ifS (Ay (Bf .Eq (Ao .mod (Ac 7) (kF (.int 4))) (kF (.int 2)))) (Aj (Bo 14 (ixF ns (Oj (Aa (kF (.str "")) (Aa (Ao .add (Ac 12) (ixF ns (Ac 4) (Ac 8))) nilF))) (Ao .mod (Ao .fdiv (Ac 7) (kF (.int 900))) (kF (.int 2)))))
    (Aj (Bo 13 (Ao .add (slF ns (Ac 4) Bs (Cg (Ac 8))) (Ac 14)))
    (Aj (Bo 13 (Ao .add (Ac 13) (slF ns (Ac 4) (Cg (Ao .add (Ac 8) (kF (.int 1)))) Bs)))
    Am))) (Aj (Bo 13 (Ao .add (slF ns (Ac 4) Bs (Cg (Ac 8))) (Ac 12)))
    (Aj (Bo 13 (Ao .add (Ac 13) (slF ns (Ac 4) (Cg (Ao .add (Ac 8) (kF (.int 1)))) Bs)))
    Am)))
   Am))
  (Aj (Bo 15 (Bf .NotEq (slF ns (Ac 13) (Cg (Xc (kF (.int 2)))) Bs) (Ae (Ij ns) (Aa (slF ns (Ac 13) Bs (Cg (Xc (kF (.int 2))))) nilF))))
  (Aj (ifS (orT (Ay (Ac 15)) (Acv (Ay (Bf .NotEq (Ac 13) (Ac 4))) (Acv (Ay (Bf .NotEq (Ao .mod (Ac 7) (kF (.int 4))) (kF (.int 2)))) (Ay (Bf .Lt (Ac 8) (Ao .sub (Ac 2) (kF (.int 3)))))))) (Aj (Bo 5 (Ff (Ac 5) (Ae (Gv ns) (Aa (Ac 13) nilF))))
   Am) Am)
  Am))))))))))
 (Aj (Bo 16 (ixF ns (Oj (Aa (kF .non) (Aa (kF (.int 5)) (Aa (Oj (Aa (Ac 4) nilF)) (Aa (kF (.bl true)) (Aa (Jk (Aa (Ac 4) nilF)) (Aa (Oh []) (Aa (kF (.str "")) (Aa (Ao .add (Ac 4) (kF (.str "\n"))) (Aa (Ae Aem (Aa (Ac 4) nilF)) nilF)))))))))) (Ao .mod (Ae (By ns) (Aa (Ac 1) nilF)) (kF (.int 9)))))
 (Aj (retS (Ff (Ac 5) (Ff (Ae (Gv ns) (Aa (Ac 16) nilF)) (Bf .Eq (Ae (Dp ns) (Aa (Ac 4) nilF)) (Ac 3)))))
 Am))))))))))
def Aj9 (ns:List Int):List W->M W:=Ck 1 17 (Ax4 ns)
theorem Bfe (ns:List Int):Cv (Aq Abx) ((md ns).gm (Af9 ns) Bfd (Ak Abx) (Ad ns))=Ax4 ns:=by kernel_rfl
abbrev Dg:Stmt:=inClass (top 5) 0
theorem Xd:Fj ["self","number","words"] ["self","number","words"] (Ak Dg):=⟨rfl,rfl,rfl,by decide +kernel,rfl,by decide +kernel,by decide +kernel⟩
theorem Bb2 {l:PySem.W.OpenLaw} {w:World} {K:PySem.W.Frag} {h:Heap} {mg:Str->Option Value} {fa:Addr} {c0 c1 c2 c3 c4 c5:Addr} {f34 f54:Addr} {od34 an34 od54 an54:Option Addr} {sl34 sl54:Array (Option Value)} {oc34 kV34 dc34 pm34 cd34 ct34 oc54 kV54 dc54 pm54 cd54 ct54:Value} {t34:Addr} {do34:Value} {dd34:Option Addr} {dn34:Nat} {dz34:Array (Option Value)} {dk34_0:Tok} {t54:Addr} {do54:Value} {dd54:Option Addr} {dn54:Nat} {dz54:Array (Option Value)} {dk54_1:Tok} {tk0 tk1 tk2 tk3 tk4 tk5 tk6 tk7 tk8 tk9 tk10 tk11 tk12 tk13 tk14 tk15 tk16 tk17:Tok} {m0:Addr} (X:K.In h) (G:h.Ns mainGlobals mg) (hfa:mg "law"=some (.ref fa)) (law:∀ns:List Int,ns.length<=63->∃S',Aj9 ns [.scr] []=.ok (.bl true) S')
  (C0:nsIn K mainGlobals "TableError"=some (some (.ref c0)))
  (C1:nsIn K mainGlobals "BadNumber"=some (some (.ref c1)))
  (C2:nsIn K mainGlobals "BadText"=some (some (.ref c2)))
  (C3:nsIn K mainGlobals "BadSize"=some (some (.ref c3)))
  (C4:nsIn K mainGlobals "BadPage"=some (some (.ref c4)))
  (C5:nsIn K mainGlobals "BodyReader"=some (some (.ref c5)))
  (D0:El K mg "_law_cell_at" Ku ["_law_script","_law_k"])
  (D1:El K mg "_law_next" Pk ["_law_state"])
  (D2:El K mg "_law_signs" Nq [])
  (D3:El K mg "_law_text" Pq ["_law_number","_law_size"])
  (D4:El K mg "_law_rising" Mg ["_law_state","_law_many"])
  (D5:El K mg "_law_cell" Pr ["_law_state","_law_size"])
  (D6:El K mg "_law_digits" Mi ["_law_number","_law_many"])
  (D7:El K mg "_law_body" Px ["_law_page_here"])
  (D8:El K mg "_law_page" Py ["_law_state","_law_size"])
  (D9:El K mg "_law_check" Nr ["_law_text_here"])
  (D10:El K mg "_law_page_text" Jo ["_law_page_here","_law_size"])
  (D11:El K mg "is_written_number" Hf ["thing"])
  (D12:El K mg "number_of" P0 ["text"])
  (D13:Yw K c5 "__init__" "BodyReader.__init__" Ge ["self","body"])
  (D14:Yw K c5 "next_signs" "BodyReader.next_signs" Fb ["self","many"])
  (D15:Yw K c5 "next_number" "BodyReader.next_number" Eu ["self","many"])
  (D16:Yw K c5 "next_key" "BodyReader.next_key" Gg ["self"])
  (D17:Yw K c5 "next_keys" "BodyReader.next_keys" Fp ["self","many"])
  (D18:Yw K c5 "next_numbers" "BodyReader.next_numbers" Eo ["self","many"])
  (D19:Yw K c5 "next_cell" "BodyReader.next_cell" Fv ["self"])
  (D20:Yw K c5 "next_row" "BodyReader.next_row" Gi ["self"])
  (D21:Yw K c5 "next_rows" "BodyReader.next_rows" Fw ["self","many"])
  (D22:El K mg "told_page" Qa ["letter","body"])
  (D23:El K mg "is_whole" Te ["thing"])
  (D24:El K mg "digits" Y7 ["number","many"])
  (D25:El K mg "is_text" Vr ["thing"])
  (D26:El K mg "check_of" Tf ["text"])
  (D27:El K mg "has_right_check" Ip ["text"])
  (D28:El K mg "told_by_text" Kv ["text"])
  (D29:El K mg "word_of" Vs ["thing"])
  (D30:El K mg "is_key" Zc ["thing"])
  (D31:El K mg "are_rising_keys" Iv ["keys"])
  (D32:El K mg "is_tuple_of" Mm ["thing","many"])
  (D33:El K mg "is_text_of" N7 ["thing","least","most"])
  (ca34:nsIn K mainGlobals "is_number"=some (some (.ref f34)))
  (cl34:K.lookup f34=some ⟨oc34,od34,.func (fnOf "is_number" "is_number" (Dt Cw) (Aq Cw) (Ak Cw) (.ref t34) kV34 dc34 pm34 an34 cd34 ct34),sl34⟩)
  (cc34:codeIn K cd34 "is_number"=true)
  (ck34:keepIn K (.ref f34)=true)
  (dl34:K.lookup t34=some ⟨do34,dd34,.seq #[(.int 0 dk34_0)] dn34,dz34⟩)
  (D35:El K mg "is_cell" Vt ["thing"])
  (D36:El K mg "are_rows" Ti ["thing"])
  (D37:El K mg "are_keys" Tn ["thing"])
  (D38:El K mg "are_kids" Tq ["thing","many"])
  (D39:El K mg "is_page" Vu ["thing"])
  (D40:El K mg "unchecked_text" Jq ["page","body","size"])
  (D41:El K mg "is_size" Vx ["thing"])
  (D42:El K mg "numbers_text" Kw ["numbers"])
  (D43:El K mg "key_text" Tt ["key"])
  (D44:El K mg "cell_text" Qh ["cell"])
  (D45:El K mg "row_text" Tu ["row"])
  (D46:El K mg "body_text" Qj ["page"])
  (D47:El K mg "page_of" Vy ["text"])
  (D48:El K mg "_law_refused" Kz ["_law_text_here"])
  (D49:El K mg "_law_plain" Dj ["_law_thing"])
  (D50:El K mg "body_of" Vz ["page"])
  (D51:El K mg "room_of" V1 ["size"])
  (D52:El K mg "page_text" Q6 ["page","size"])
  (D53:El K mg "law" Abx ["_law_script"])
  (ca54:PySem.W.findIn K (.ref c4) "__init__"=some (some (.ref f54)))
  (cl54:K.lookup f54=some ⟨oc54,od54,.func (fnOf "__init__" "BadPage.__init__" (Dt Dg) (Aq Dg) (Ak Dg) (.ref t54) kV54 dc54 pm54 an54 cd54 ct54),sl54⟩)
  (cc54:codeIn K cd54 "BadPage.__init__"=true)
  (ck54:keepIn K (.ref f54)=true)
  (dl54:K.lookup t54=some ⟨do54,dd54,.seq #[.none,(.str "no page as it is wanted" dk54_1)] dn54,dz54⟩)
  (g0:nsIn K mainGlobals "SIGNS"=some (some (.str "0123456789abcdefghijklmnopqrstuvwxyzABCDEFGHIJKLMNOPQRSTUVWXYZ+-" tk0)))
  (g1:nsIn K mainGlobals "BITS"=some (some (.int 6 tk1)))
  (g2:nsIn K mainGlobals "LOWEST_BITS"=some (some (.int 63 tk2)))
  (g3:nsIn K mainGlobals "MOST_SIGNS"=some (some (.int 3 tk3)))
  (g4:nsIn K mainGlobals "TEXT_SIGNS"=some (some (.str " !\"#$&'()*+,-./0123456789:;<=>?@ABCDEFGHIJKLMNOPQRSTUVWXYZ[\\]^_`abcdefghijklmnopqrstuvwxyz{|}~" tk4)))
  (g5:nsIn K mainGlobals "CODES_AHEAD"=some (some (.int 31 tk5)))
  (g6:nsIn K mainGlobals "CHECK_DIVISOR"=some (some (.int 4093 tk6)))
  (g7:nsIn K mainGlobals "CHECK_SIGNS"=some (some (.int 2 tk7)))
  (g8:nsIn K mainGlobals "MOST_KEY_SIGNS"=some (some (.int 12 tk8)))
  (g9:nsIn K mainGlobals "MOST_VALUE_SIGNS"=some (some (.int 400 tk9)))
  (g10:nsIn K mainGlobals "LEAST_SIZE"=some (some (.int 64 tk10)))
  (g11:nsIn K mainGlobals "MOST_SIZE"=some (some (.int 200 tk11)))
  (g12:nsIn K mainGlobals "MOST_NUMBER"=some (some (.int 4095 tk12)))
  (g13:nsIn K mainGlobals "MOST_ROWS"=some (some (.int 63 tk13)))
  (g14:nsIn K mainGlobals "MOST_CELL_SIGNS"=some (some (.int 63 tk14)))
  (g15:nsIn K mainGlobals "NUMBER_SIGNS"=some (some (.int 2 tk15)))
  (g16:nsIn K mainGlobals "SIGNS_BESIDE_BODY"=some (some (.int 5 tk16)))
  (g17:nsIn K mainGlobals "BODY_START"=some (some (.int 3 tk17)))
  (z0:nsIn K mainGlobals "isinstance"=some none)
  (z1:nsIn K mainGlobals "len"=some none)
  (z2:nsIn K mainGlobals "ord"=some none)
  (z3:nsIn K mainGlobals "max"=some none)
  (z4:nsIn K mainGlobals "min"=some none)
  (z5:nsIn K mainGlobals "sum"=some none)
  (z6:nsIn K mainGlobals "all"=some none)
  (z7:nsIn K mainGlobals "tuple"=some none)
  (z8:nsIn K mainGlobals "list"=some none)
  (z9:nsIn K mainGlobals "sorted"=some none)
  (z10:nsIn K mainGlobals "range"=some none)
  (z11:nsIn K mainGlobals "zip"=some none)
  (z12:nsIn K mainGlobals "enumerate"=some none)
  (z13:nsIn K mainGlobals "int"=some none)
  (z14:nsIn K mainGlobals "bool"=some none)
  (z15:nsIn K mainGlobals "str"=some none)
  (z16:nsIn K mainGlobals "ValueError"=some none)
  (x0:Aad K c0)
  (x1:Aad K c1)
  (x2:Aad K c2)
  (x3:Aad K c3)
  (isL:Ajs K [c0,c1,c2,c3,c4,c5] Be4=true)
  (veL:Aqk K [c0,c1,c2,c3,c4,c5] Be5=true)
  (exL:Aju K [c0,c1,c2,c3,c4,c5] Bfb=true)
  (mg0:nsIn K mainGlobals "LETTERS"=some (some (.ref m0)))
  (mt0:KTD.tabLook (KTD.datLooks fun b=>K.lookup b) (fun b=>K.lookup b) m0 (Gb.map fun p=>(p.1,KTD.Dat.flat (.str p.2)))=true)
  (xa54:Acl K c4 f54=true)
  (xk54:keepIn K (.ref c4)=true)
  (xf54:Bbs K f54=true)
  (xs54:xsB K c4 "number"=true)
  (xb54:xbB K c0=true)
  (cm5:makesIn K c5=true)
  (cy5:keepIn K (.ref c5)=true)
  (cb5:Aqm K c5=true)
  (fl:Ajt K [c0,c1,c2,c3,c4,c5] Be6=true)
  (xl:Aqo K [c0,c1,c2,c3,c4,c5] xfL=true)
  : ∃fd:FuncData,(∀(s:Shared) (v:Value),BindsTo s fd ⟨[v],[]⟩ [("_law_script",v)])/\∀base:Heap,K.In base->base.Ns mainGlobals mg->Gw l.prog w K mg base (CXo l.prog w) 120 fa fd ["_law_script"] (Ajo K):=by
 obtain⟨fL,kV,dc,pm,an,cd,ct,Fl,hm⟩:=D53;have e:fa=fL:=Value.ref.inj (Option.some.inj (hfa.symm.trans hm));rw[e];have F34:=Acf (st:=Cw) cl34 cc34 ck34;have b34:Binds K (fnOf "is_number" "is_number" (Dt Cw) (Aq Cw) (Ak Cw) (.ref t34) kV34 dc34 pm34 an34 cd34 ct34) ["thing","least"] []:=fun s us KX hl=>by
  have hl':us.length=2:=by simpa using hl
  exact match us,hl' with|[_,_],_=>.of_defaults rfl (KX _ _ dl34) rfl rfl rfl
 have v34:Binds K (fnOf "is_number" "is_number" (Dt Cw) (Aq Cw) (Ak Cw) (.ref t34) kV34 dc34 pm34 an34 cd34 ct34) ["thing","least"] [(.int 0 dk34_0)]:=fun s us KX hl=>by
  have hl':us.length=1:=by simpa using hl
  exact match us,hl' with|[_],_=>.of_defaults rfl (KX _ _ dl34) rfl rfl rfl
 have D34:Og K mg "is_number" Cw ["thing","least"] f34 (fnOf "is_number" "is_number" (Dt Cw) (Aq Cw) (Ak Cw) (.ref t34) kV34 dc34 pm34 an34 cd34 ct34):=⟨F34,mg_of X G ca34,b34⟩;have F54:=Acf (st:=Dg) cl54 cc54 ck54;have b54:Binds K (fnOf "__init__" "BadPage.__init__" (Dt Dg) (Aq Dg) (Ak Dg) (.ref t54) kV54 dc54 pm54 an54 cd54 ct54) ["self","number","words"] []:=fun s us KX hl=>by
  have hl':us.length=3:=by simpa using hl
  exact match us,hl' with|[_,_,_],_=>.of_defaults rfl (KX _ _ dl54) rfl rfl rfl
 have v54:Binds K (fnOf "__init__" "BadPage.__init__" (Dt Dg) (Aq Dg) (Ak Dg) (.ref t54) kV54 dc54 pm54 an54 cd54 ct54) ["self","number","words"] [.none,(.str "no page as it is wanted" dk54_1)]:=fun s us KX hl=>by
  have hl':us.length=1:=by simpa using hl
  exact match us,hl' with|[_],_=>.of_defaults rfl (KX _ _ dl54) rfl rfl rfl
 refine⟨fnOf "law" "law" (Dt Abx) (Aq Abx) (Ak Abx) .none kV dc pm an cd ct,fun s v=>.of_eq rfl,fun base _ _=>Bbq (xf:=fun c=>xfL.lookup c) (cl:=addrs [c0,c1,c2,c3,c4,c5]) (g:=Aj9) law fun l' ns=>?_⟩;let Θ:=Aqh K (addrs [c0,c1,c2,c3,c4,c5]) l' ns fun c=>xfL.lookup c;have M:(md ns).Ok Θ K mg:={
  hK:=rfl,ns:=rfl
  con:=AllP.at (L:=Be7) (P:=Aqj Θ mg) ⟨Ajp (mg_of X G g0),Ew (mg_of X G g1),Ew (mg_of X G g2),Ew (mg_of X G g3),Ajp (mg_of X G g4),Ew (mg_of X G g5),Ew (mg_of X G g6),Ew (mg_of X G g7),Ew (mg_of X G g8),Ew (mg_of X G g9),Ew (mg_of X G g10),Ew (mg_of X G g11),Ew (mg_of X G g12),Ew (mg_of X G g13),Ew (mg_of X G g14),Ew (mg_of X G g15),Ew (mg_of X G g16),Ew (mg_of X G g17),Vj (mg_none_of X G z13) (by kernel_rfl),Vj (mg_none_of X G z14) (by kernel_rfl),Vj (mg_none_of X G z15) (by kernel_rfl),Vj (mg_none_of X G z7) (by kernel_rfl),Vj (mg_none_of X G z8) (by kernel_rfl),Vj (mg_none_of X G z16) (by kernel_rfl),Rj (mg_of X G C0),Rj (mg_of X G C1),Rj (mg_of X G C2),Rj (mg_of X G C3),Rj (mg_of X G C4),Rj (mg_of X G C5),trivial⟩
  bi:=AllB.at (L:=biL) (P:=fun x=>mg x=none) ⟨mg_none_of X G z0,mg_none_of X G z1,mg_none_of X G z2,mg_none_of X G z3,mg_none_of X G z4,mg_none_of X G z5,mg_none_of X G z6,mg_none_of X G z7,mg_none_of X G z8,mg_none_of X G z9,mg_none_of X G z10,mg_none_of X G z11,mg_none_of X G z12,trivial⟩
  fld:=Bbu fl xl
  isa:=Bbt isL veL
  exc:=AllP.at (L:=Be8) (P:=fun x c=>Θ.xf c=none/\Aad K (Θ.cl c)/\mg x=some (.ref (Θ.cl c))) ⟨⟨rfl,x0,mg_of X G C0⟩,⟨rfl,x1,mg_of X G C1⟩,⟨rfl,x2,mg_of X G C2⟩,⟨rfl,x3,mg_of X G C3⟩,trivial⟩
  mdc:=AllP.at (L:=Bfc) (P:=fun x D=>∃a,Al4 K a D/\mg x=some (.ref a)) ⟨⟨_,Av1 mt0,mg_of X G mg0⟩,trivial⟩
  hcl:=AllP.at (L:=Bfa) (P:=fun x k=>mg x=some (.ref (Θ.cl k))) ⟨mg_of X G C0,mg_of X G C2,trivial⟩
  exm:=fun k c h=>Bbv exL k c h
  mkl:=AllP.at (L:=mkL) (P:=fun x c=>mg x=some (.ref (Θ.cl c))/\makesIn K (Θ.cl c)=true/\keepIn K (.ref (Θ.cl c))=true) ⟨⟨mg_of X G C5,cm5,cy5⟩,trivial⟩ }
 have hI:XiT Θ (md ns) l.prog w K mg base 1:=fun x c dv h=>AllP.at (L:=Be9) (P:=fun x (p:Nat×List W)=>∃f,Θ.xf p.1=some f/\mg x=some (.ref (Θ.cl p.1))/\∃(fI:Addr) (fd:FuncData) (ps:List Str) (dvs:List V) (ds:List Value),Acl K (Θ.cl p.1) fI=true/\keepIn K (.ref (Θ.cl p.1))=true/\typeIn K (.ref fI)=some (.type "function")/\Gw l.prog w K mg base (CXo l.prog w) 1 fI fd ps (Alo (Θ.cl p.1) f) true/\Binds K fd ps ds/\Vals dvs ds/\dvs.length=p.2.length) ⟨⟨_,rfl,mg_of X G C4,f54,_,_,[],[],xa54,xk54,Av0 xf54,Bd1 F54 Xd rfl (mg_of X G C0) (Bev xb54) (Beu xs54) xa54 (by decide +kernel) (by decide +kernel) (by decide +kernel) (by decide +kernel) (by decide +kernel) (by decide +kernel) (by decide +kernel),b54,.nil,rfl⟩,trivial⟩ x (c,dv) h
 have t:TU Θ (md ns) l.prog w K mg base 2 (T_0 ns) (U_0 ns):=⟨Tbl.nil,MTb.nil,hI,by decide,M⟩
 have t:=Ei (Y4 ns) t D0;have t:=Ei (Afk ns) t D1;have t:=Ei (Adj ns) t D2;have t:=Ei (Afm ns) t D3;have t:=Ei (Aak ns) t D4;have t:=Ei (Afo ns) t D5;have t:=Ei (Aam ns) t D6;have t:=Ei (Afq ns) t D7;have t:=Ei (Afs ns) t D8;have t:=Ei (Adl ns) t D9;have t:=Ei (Vq ns) t D10;have t:=Ei (Rv ns) t D11;have t:=Ei (Afu ns) t D12;have t:=Ac3 (c:=5) (Ot ns) t cb5 D13;have t:=Ac3 (c:=5) (M3 ns) t cb5 D14;have t:=Ac3 (c:=5) (Ml ns) t cb5 D15;have t:=Ac3 (c:=5) (Ov ns) t cb5 D16;have t:=Ac3 (c:=5) (Nu ns) t cb5 D17;have t:=Ac3 (c:=5) (Lg ns) t cb5 D18;have t:=Ac3 (c:=5) (Ny ns) t cb5 D19;have t:=Ac3 (c:=5) (Ox ns) t cb5 D20;have t:=Ac3 (c:=5) (N5 ns) t cb5 D21;have t:=Ei (Afw ns) t D22;have t:=Ei (Ah5 ns) t D23;have t:=Ei (Are ns) t D24;have t:=Ei (Amj ns) t D25;have t:=Ei (Ah7 ns) t D26;have t:=Ei (Ut ns) t D27;have t:=Ei (Zb ns) t D28;have t:=Ei (Aml ns) t D29;have t:=Ei (Arh ns) t D30;have t:=Ei (Uv ns) t D31;have t:=Ei (Aao ns) t D32;have t:=Ei (Adn ns) t D33;have t:=Bew (dv:=[(.int 0)]) (Af2 ns) t D34 rfl ((.cons ⟨_,rfl⟩ .nil)) v34;have t:=Ei (Amn ns) t D35;have t:=Ei (Ah9 ns) t D36;have t:=Ei (Aib ns) t D37;have t:=Ei (Aid ns) t D38;have t:=Ei (Amp ns) t D39;have t:=Ei (Vw ns) t D40;have t:=Ei (Amr ns) t D41;have t:=Ei (Zk ns) t D42;have t:=Ei (Aif ns) t D43;have t:=Ei (Af4 ns) t D44;have t:=Ei (Aih ns) t D45;have t:=Ei (Af6 ns) t D46;have t:=Ei (Amt ns) t D47;have t:=Ei (Zt ns) t D48;have t:=Ei (Zu ns) t D49;have t:=Ei (Zv ns) t D49;have t:=Ei (Zw ns) t D49;have t:=Ei (Zx ns) t D49;have t:=Ei (Zy ns) t D49;have t:=Ei (Zz ns) t D49;have t:=Ei (Amv ns) t D50;have t:=Ei (Amx ns) t D51;have t:=Ei (Af8 ns) t D52;exact Bg7 (Bfe ns) t ⟨Fl,hm,Yb fun us h=>match us,h with|[_],_=>rfl⟩
section
variable {ns:List Int}
theorem Jr (i:Int):Pu P (Ht ns [.int i]) (.bl true):=fun S _=>⟨[],by rw[append_nil];rfl⟩
theorem Xo (v:Int) (h0:0<=v) (h:v < 64):Pu P (ixW ns (.str "0123456789abcdefghijklmnopqrstuvwxyzABCDEFGHIJKLMNOPQRSTUVWXYZ+-") (.int v)) (.str (M1.one (M1.sg v.toNat))):=by
 obtain⟨k,rfl⟩:=Int.eq_ofNat_of_zero_le h0;have hk:k < 64:=by omega
 have e:atI M1.sgs.cps.toList (k:Int)=some (M1.sg k):=by
  unfold atI ixN;rw[if_pos h0,if_pos (by rw[length_toList,M1.Um];exact h)]
  show M1.sgs.cps.toList[((k:Nat):Int).toNat]?=_;rw[toNat_natCast,M1.Ah0 hk]
 show Pu P (if M1.sgs.length<=big then Aag ((atI M1.sgs.cps.toList (k:Int)).map fun c=>W.str ⟨#[c]⟩) else bad) _
 rw[e];exact G8 (by decide +kernel) Pu.pure
theorem Bb3 {n:Int} (h:0<=n):Builtin.bitAnd n 63=n % 64:=bitAnd_m6 _
theorem Z0 {n:Int} (h0:0<=n) (ht:t.length<=10):PuN P (Aj (Bo 2 (Ao .add (ixF ns (kF (.str "0123456789abcdefghijklmnopqrstuvwxyzABCDEFGHIJKLMNOPQRSTUVWXYZ+-")) (Ao .and (Ac 3) (kF (.int 63)))) (Ac 2))) (Aj (Bo 3 (Ao .shr (Ac 3) (kF (.int 6)))) Am))
  [a,b,some (.str t),some (.int n),c] [a,b,some (.str (M1.one (M1.sg (n % 64).toNat) ++ t)),some (.int (n / 64)),c]:=by
 refine Mf (Bd (An (Bh Ai (An (Af rfl) Ai Al8) ?_) (Af rfl) (Ca ?_))) (Mf (Bd (An (Af rfl) Ai (Ahu (by decide)))) Av)
 .rw[Bb3 h0];exact Xo _ (by omega) (by omega)
 .show 1+t.length<=big;unfold big;omega
theorem Awc {n:Int} (h0:0<=n) (h1:n < 64):Pu P (Ga ns [.int n,.int 1]) (.str (M1.Bu 1 n)):=by
 apply Bq rfl;refine Bx (Dz (Em (Cz (Al (Ah (Ab (Af rfl) Ag) (Jr n)))) (Al (Ar (Af rfl) Ai Ul))) (by simp;omega) Av) ?_
 refine Bx (Dz (Em (Cz (Al (Ah (Ab (Af rfl) Ag) (Jr 1)))) (Em (Al (Ar (Af rfl) Ai Ul)) (Al (Ar (Af rfl) Ai R5)))) rfl Av) ?_;refine Bx (Dz (Al (Ar (An (Af rfl) (An Ai (Af rfl) (Ie (by decide +kernel))) (Ahu (by decide))) Ai R5)) (by
  have:n / 64=0:=by omega
  simp;show n / 64<=0;omega) Av) ?_
 refine Bx (Bd Ai) (Bx (Bd (Af rfl)) ?_);refine Bx (Lj (Ig (k:=1) (Ab (Af rfl) Ag) (by decide)) (Jz rfl (Z0 h0 (by decide +kernel)) Rk)) (Bp (Bb (Pu.cast (Af rfl) ?_)))
 show W.str (M1.one (M1.sg (n % 64).toNat) ++ ⟨#[]⟩)=W.str (M1.one (M1.sg (n / 64 ^ 0 % 64).toNat) ++ ⟨#[]⟩);rw[pow_zero,ediv_one]
theorem Ado {n:Int} (h0:0<=n) (h1:n < 4096):Pu P (Ga ns [.int n,.int 2]) (.str (M1.Bu 2 n)):=by
 apply Bq rfl;refine Bx (Dz (Em (Cz (Al (Ah (Ab (Af rfl) Ag) (Jr n)))) (Al (Ar (Af rfl) Ai Ul))) (by simp;omega) Av) ?_
 refine Bx (Dz (Em (Cz (Al (Ah (Ab (Af rfl) Ag) (Jr 2)))) (Em (Al (Ar (Af rfl) Ai Ul)) (Al (Ar (Af rfl) Ai R5)))) rfl Av) ?_;refine Bx (Dz (Al (Ar (An (Af rfl) (An Ai (Af rfl) (Ie (by decide +kernel))) (Ahu (by decide))) Ai R5)) (by
  simp;show n / 4096<=0;omega) Av) ?_
 refine Bx (Bd Ai) (Bx (Bd (Af rfl)) ?_);refine Bx (Lj (Ig (k:=2) (Ab (Af rfl) Ag) (by decide)) (Jz rfl (Z0 h0 (by decide +kernel)) (Jz rfl (Z0 (by omega) (by show 1+0<=10;decide)) Rk))) (Bp (Bb (Pu.cast (Af rfl) ?_)))
 show W.str (M1.one (M1.sg (n / 64 % 64).toNat) ++ (M1.one (M1.sg (n % 64).toNat) ++ ⟨#[]⟩))=W.str (M1.one (M1.sg (n / 64 ^ 1 % 64).toNat) ++ (M1.one (M1.sg (n / 64 ^ 0 % 64).toNat) ++ ⟨#[]⟩));rw[pow_zero,ediv_one];rfl
end
section
variable {ns:List Int}
theorem Awd {c:Nat}:Pu P (Ao8 [.str ⟨#[c]⟩]) (.int (c:Nat)):=Pu.pure
theorem V3 (h1:Pu P (f δ) (.str z)) (h2:Pu P (gs δ) ws) (h3:Pu P (op (.str z) ws) w):Pu P (Jc .str op f gs δ) w:=by
 refine h1.bind (Pu.bind (a:=()) (fun S _=>⟨[],?_⟩) (h2.bind h3));rw[append_nil];rfl
theorem Ari (hz:z.length<=big):Pu P (Acu (.str z) [.str y]) (.str (Txt.stripChars z y)):=G8 hz Pu.pure
theorem Amy:("":Str)=⟨#[]⟩:=by decide +kernel
theorem Adp (z:Str) (hz:z.length<=big):Pu P (M4 ns [.str z]) (.bl (M2.Dw z)):=by
 apply Bq rfl;apply Bp;apply Bb;refine Cp (Ah (Ab (Af rfl) (Ab Ai Ag)) (fun S _=>⟨[],by rw[append_nil];rfl⟩)) ?_
 refine Pu.cast (Ar (V3 (Af rfl) (Ab Ai Ag) (Ari hz)) Ai Fo) ?_;show W.bl (Txt.stripChars z M2.tsg==("":Str))=_;rw[Amy,M2.Ah3]
theorem len_str (hz:z.length<=big):Pu P (Dd ns [.str z]) (.int z.length):=G8 hz Pu.pure
theorem Es:Pu P (Dd ns [.tup ws]) (.int ws.length):=Pu.pure
theorem Rq:Pu P (Dq isa [.str z,.ty "str"]) (.bl true):=fun S _=>⟨[],by rw[append_nil];rfl⟩
theorem Uz:Pu P (Dq isa [.tup ws,.ty "tuple"]) (.bl true):=fun S _=>⟨[],by rw[append_nil];rfl⟩
def isKey (z:Str):Bool:=M2.Dw z&&(decide (1<=z.length)&&decide (z.length<=12))
theorem Arj (z:Str) (hz:z.length<=big):Pu P (M5 ns [.str z]) (.bl (isKey z)):=by
 apply Bq rfl;apply Bp;apply Bb;refine Pu.cast (Ac5 (Ah (Ab (Af rfl) Ag) (Adp z hz)) (Pa Ai (Ah (Ab (Af rfl) Ag) (len_str hz)) O9 Ai O9)) ?_;unfold isKey
 congr 3
 .exact decide_eq_decide.mpr (by omega)
 .exact decide_eq_decide.mpr (by omega)
def Gq (n k:Int):Bool:=decide (k<=n)&&decide (n<=4095)
theorem Aii (n k:Int):Pu P (Eg ns [.int n,.int k]) (.bl (Gq n k)):=by
 apply Bq rfl;apply Bp;apply Bb;exact Cp (Ah (Ab (Af rfl) Ag) (Jr n)) (Pa (Af rfl) (Af rfl) O9 Ai O9)
theorem Aby (z:Str) (a b:Int) (hz:z.length<=big):Pu P (Ke ns [.str z,.int a,.int b]) (.bl (M2.Dw z&&(decide (a<=z.length)&&decide ((z.length:Int)<=b)))):=by
 apply Bq rfl;apply Bp;apply Bb;exact Ac5 (Ah (Ab (Af rfl) Ag) (Adp z hz)) (Pa (Af rfl) (Ah (Ab (Af rfl) Ag) (len_str hz)) O9 (Af rfl) O9)
theorem Aga (ws:List W) (n:Int):Pu P (Hn ns [.tup ws,.int n]) (.bl ((ws.length:Int)==n)):=by
 apply Bq (ws:=[.tup ws,.int n]) rfl;apply Bp;apply Bb;exact Cp (Ah (Ab (Af rfl) (Ab Ai Ag)) Uz) (Ar (Ah (Ab (Af rfl) Ag) Es) (Af rfl) Ih)
theorem Bc {i:Int} (h:atI ws i=some w):Pu P (ixW ns (.tup ws) (.int i)) w:=by
 show Pu P (Aag (atI ws i)) w;rw[h];exact Pu.pure
theorem Oa (z:Str) (ws:List W):Pu P (Rn ns [.tup (.str z::ws)]) (.str z):=by
 have e:atI (W.str z::ws) 0=some (W.str z):=by
  unfold atI ixN;rw[if_pos (by decide),if_pos (by rw[length_cons];omega)]
  rfl
 apply Bq rfl;apply Bp;apply Nk
 .apply Rm
  .apply Al;exact Ah (Ab (Af rfl) (Ab Ai Ag)) Uz
  apply Rm
  .apply Al;exact Ar (Ah (Ab (Af rfl) Ag) Es) Ai R5
  .apply Al;exact Ah (Ab (Bh (Af rfl) Ai (Bc e)) (Ab Ai Ag)) Rq
 .simp
 .exact Bp (Bb (Bh (Af rfl) Ai (Bc e)))
end
inductive Cl where
 |inn (t:Str)
 |out (n p:Int)
def Cl.w:Cl->W
 |.inn t=>.tup [.str "in",.str t]
 |.out n p=>.tup [.str "out",.int n,.int p]
def Cl.ok:Cl->Bool
 |.inn t=>M2.Dw t&&decide (t.length<=63)
 |.out n p=>decide (1<=n)&&decide (n<=400)&&Gq p 1
inductive Pg where
 |head (a b c d:Int)
 |leaf (rs:List (Str×Cl))
 |fork (ks:List Str) (ps:List Int)
 |rest (t:Str) (n:Int)
 |free (n:Int)
def Ob (r:Str×Cl):W:=.tup [.str r.1,r.2.w]
def Pg.w:Pg->W
 |.head a b c d=>.tup [.str "head",.int a,.int b,.int c,.int d]
 |.leaf rs=>.tup [.str "leaf",.tup (rs.map Ob)]
 |.fork ks ps=>.tup [.str "fork",.tup (ks.map W.str),.tup (ps.map W.int)]
 |.rest t n=>.tup [.str "rest",.str t,.int n]
 |.free n=>.tup [.str "free",.int n]
section
variable {ns:List Int}
theorem Awe (c:Cl) (h:c.ok=true):Pu P (Ro ns [c.w]) (.bl true):=by
 cases c with
 |inn t=>
  unfold Cl.ok at h;rw[and_eq_true,decide_eq_true_eq] at h;apply Bq (ws:=[Cl.w (.inn t)]) rfl;apply Bx
  .apply Bd;exact Ah (Ab (Af rfl) Ag) (Oa _ _)
  apply Bp;apply Nk
  .apply Al;exact Ar (Af rfl) Ai (Bt (by decide +kernel) (by decide +kernel))
  .decide +kernel
  .apply Bp;apply Bb;refine Pu.cast (Cp (Ar (Ah (Ab (Af rfl) Ag) Es) Ai Ih) (Ah (Ab (Bh (Af rfl) Ai (Bc rfl)) (Ab Ai (Ab Ai Ag))) (Aby t 0 63 (le_trans h.2 (by decide))))) ?_
   rw[h.1,decide_eq_true (by omega),decide_eq_true (by omega)]
   rfl
 |out n p=>
  unfold Cl.ok at h;rw[and_eq_true,and_eq_true] at h;apply Bq (ws:=[Cl.w (.out n p)]) rfl;apply Bx
  .apply Bd;exact Ah (Ab (Af rfl) Ag) (Oa _ _)
  apply Bx
  .apply Dz
   .apply Al;exact Ar (Af rfl) Ai (Bt (by decide +kernel) (by decide +kernel))
   .decide +kernel
   .exact Av
  apply Bp;apply Nk
  .apply Al;exact Ar (Af rfl) Ai (Bt (by decide +kernel) (by decide +kernel))
  .decide +kernel
  .apply Bp;apply Bb;refine Pu.cast (Cp (Ar (Ah (Ab (Af rfl) Ag) Es) Ai Ih) (Cp (Ah (Ab (Bh (Af rfl) Ai (Bc rfl)) Ag) (Jr n)) (Ac5 (Pa Ai (Bh (Af rfl) Ai (Bc rfl)) O9 Ai O9) (Ah (Ab (Bh (Af rfl) Ai (Bc rfl)) (Ab Ai Ag)) (Aii p 1))))) ?_;rw[h.1.1,h.1.2,h.2];rfl
end
def Sh (ks:List Str):Bool:=(ks.zip (ks.drop 1)).all fun p=>J4 p.1 p.2
theorem Bff (ws:List W):Ael ws (some 1) none=ws.drop 1:=by
 unfold Ael;cases ws with
 |nil=>rfl
 |cons w ws=>
  have e:HT.sIx (w::ws).length 0 (some 1)=1:=by
   rw[show (1:Int)=((1:Nat):Int) from rfl,HT.sIx_nat,length_cons];omega
  rw[e];show (ws.drop 0).take ((w::ws).length - 1)=ws.drop 0;rw[length_cons,Nat.add_sub_cancel,drop_zero,take_length]
theorem zip_get (ks ls:List Str) (j:Nat):(ks.zip ls)[j]?.map (fun p=>W.tup [.str p.1,.str p.2])=match (ks.map W.str)[j]?,(ls.map W.str)[j]? with|some a,some b=>some (.tup [a,b])|_,_=>none:=by
 rw[getElem?_map,getElem?_map,zip,List.getElem?_zipWith];cases ks[j]? <;> cases ls[j]? <;> rfl
section
variable {ns:List Int}
theorem Bfg {n:Nat} (h0:∀S,P.p S->AtL n (ks.map W.str) S) (hl:ks.length<=big) (hk:∀k∈ks,isKey k=true):Pu P (Ec ns [.ref n]) (.bl (Sh ks)):=by
 apply Bq (ws:=[.ref n]) rfl;apply Bx
 .apply Dz
  .apply Cz;apply Al;refine Nm (bs:=ks.map fun _=>true) ?_;have h:=Aj0 (P:=P) (xs:=ks) (φ:=W.str) (ψ:=fun _=>W.bl true) (τ:=fun _=>true) (s:=Cu 0) (t:=fun _=>pure true) (e:=Ae (M5 ns) (Aa (Ac 0) nilF)) (k:=1) (cap:=[]) (δ:=Bw 1 [.ref n]) (src:=Eh ns (Ac 0)) (n:=n) h0
    (fun S hS=>⟨[],by
     have:=h0 S hS;unfold AtL at this;show (match S[n]? with|some (.lst _)=>R.ok (Src.liv n) S|_=>.bad)=_
     rw[this,append_nil]⟩) Ajy (fun k hk'=>⟨Pu.pure,fun _=>(Ah (Ab (Af rfl) Ag) (Arj k (by
      have:=hk k hk';unfold isKey at this;simp only[and_eq_true,decide_eq_true_eq] at this;exact le_trans this.2.2 (by decide)))).cast (by rw[hk k hk'])⟩) ⟨none,rfl⟩ hl
   rw[filter_eq_self.mpr (fun _ _=>rfl)] at h;rw[map_map];exact h
  .simp
  .exact Av
 .apply Bp;apply Bb;refine Pu.cast (Nm (bs:=(ks.zip (ks.drop 1)).map fun p=>J4 p.1 p.2) ?_) ?_
  .have h:=Av6 (P:=P) (xs:=ks.zip (ks.drop 1)) (φ:=fun p=>W.tup [.str p.1,.str p.2]) (ψ:=fun p=>W.bl (J4 p.1 p.2)) (τ:=fun _=>true) (s:=W9 [0,1]) (t:=fun _=>pure true) (e:=Bf .Lt (Ac 0) (Ac 1)) (k:=2) (cap:=[]) (δ:=Bw 1 [.ref n]) (src:=Al3 (Aa (Ac 0) (Aa (slF ns (Ac 0) (Cg (kF (.int 1))) Bs) nilF))) (us:=ks.map W.str) (vs:=(ks.drop 1).map W.str)
    (fun S hS=>by
     have a0:=h0 S hS;have e0:=a0;unfold AtL at e0;refine⟨[.lst ((ks.drop 1).map W.str)],n,S.length,?_,a0.app _,?_⟩
     .have e1:slF ns (Ac 0) (Cg (kF (.int 1))) Bs (Bw 1 [.ref n]) S=.ok (.ref S.length) (S ++ [.lst ((ks.drop 1).map W.str)]):=by
       show (match S[n]? with|some (.lst ws)=>Ce (Ael ws (some 1) none) S|_=>.bad)=_
       rw[e0];dsimp only;unfold Ce;rw[Bff,<-List.map_drop,if_pos (by rw[length_map,length_drop];omega)]
      have e2:Aa (Ac 0) (Aa (slF ns (Ac 0) (Cg (kF (.int 1))) Bs) nilF) (Bw 1 [.ref n]) S=.ok [.ref n,.ref S.length] (S ++ [.lst ((ks.drop 1).map W.str)]):=by
       have e3:Aa (slF ns (Ac 0) (Cg (kF (.int 1))) Bs) nilF (Bw 1 [.ref n]) S=.ok [.ref S.length] (S ++ [.lst ((ks.drop 1).map W.str)]):=by
        unfold Aa;rw[Br,e1];rfl
       rw[Aa,Br,show Ac 0 (Bw 1 [.ref n]) S=.ok (.ref n) S from rfl];dsimp only;rw[Br,e3];rfl
      unfold Al3;rw[Br,e2];show Avh [.ref n,.ref S.length] _=_;have g1:=a0.app [.lst ((ks.drop 1).map W.str)];unfold AtL at g1;unfold Avh;dsimp only;rw[g1,getElem?_append_right (le_refl _),sub_self];rfl
     .unfold AtL;rw[getElem?_append_right (le_refl _),sub_self];rfl) (fun j=>zip_get _ _ j) (by rw[length_zip,length_map];omega) Ahv (fun p _=>⟨Pu.pure,fun _=>Ar (Af rfl) (Af rfl) Aqt⟩) ⟨none,none,rfl⟩ (by rw[length_zip];omega)
   rw[filter_eq_self.mpr (fun _ _=>rfl)] at h;rw[map_map];exact h
  .unfold Sh;rw[all_map];rfl
end
section
variable {ns:List Int}
theorem J8 {l h:De->M (Option Int)} {lo hi:Option Int} (h1:Pu P (f δ) x) (h2:Pu P (l δ) lo) (h3:Pu P (h δ) hi) (h4:Pu P (slW ns x lo hi) w):Pu P (slF ns f l h δ) w:=h1.bind (h2.bind (h3.bind h4))
theorem Ed {i:Int} (h:Pu P (f δ) (.int i)):Pu P (Cg f δ) (some i):=h.bind Pu.pure
theorem Ej:Pu P (Bs δ) none:=Pu.pure
theorem U0 (h:isKey k=true):k.length<=big:=by
 unfold isKey at h;simp only[and_eq_true,decide_eq_true_eq] at h;exact le_trans h.2.2 (by decide)
theorem Bb4 (h:isKey k=true):Pu P (M5 ns [.str k]) (.bl true):=(Arj k (U0 h)).cast (by rw[h])
theorem Bfh (hl:ks.length<=big) (hk:∀k∈ks,isKey k=true):Pu P (Ec ns [.tup (ks.map W.str)]) (.bl (Sh ks)):=by
 apply Bq (ws:=[.tup (ks.map W.str)]) rfl;apply Bx
 .apply Dz
  .apply Cz;apply Al;refine Nm (bs:=ks.map fun _=>true) ?_;have h:=Fz (P:=P) (xs:=ks) (φ:=W.str) (ψ:=fun _=>W.bl true) (t:=fun _=>pure true) (e:=Ae (M5 ns) (Aa (Ac 0) nilF)) (cs:=[]) (cap:=[]) (δ:=Bw 1 [.tup (ks.map W.str)]) (src:=Eh ns (Ac 0)) (Gp (Af rfl)) rfl hl (fun k hk'=>⟨Pu.pure,Ah (Ab (Af rfl) Ag) (Bb4 (hk k hk'))⟩);rw[map_map];exact h
  .simp
  .exact Av
 .apply Bp;apply Bb;refine Pu.cast (Nm (bs:=(ks.zip (ks.drop 1)).map fun p=>J4 p.1 p.2) ?_) ?_
  .have e0:Al2 (ks.map W.str) ((ks.map W.str).drop 1)=(ks.zip (ks.drop 1)).map fun p=>W.tup [.str p.1,.str p.2]:=by
    unfold Al2 zip;rw[<-List.map_drop,List.map_zipWith,List.zipWith_map]
   have h:=Ajz (P:=P) (xs:=ks.zip (ks.drop 1)) (φ:=fun p=>W.tup [.str p.1,.str p.2]) (ψ:=fun p=>W.bl (J4 p.1 p.2)) (τ:=fun _=>true) (s:=W9 [0,1]) (t:=fun _=>pure true) (e:=Bf .Lt (Ac 0) (Ac 1)) (k:=2) (cap:=[]) (δ:=Bw 1 [.tup (ks.map W.str)]) (src:=Al3 (Aa (Ac 0) (Aa (slF ns (Ac 0) (Cg (kF (.int 1))) Bs) nilF)))
    (by
     rw[<-e0,<-Bff];exact Pu.bind (Ab (Af rfl) (Ab (J8 (Af rfl) (Ed Ai) Ej Pu.pure) Ag)) Pu.pure) Ahv (fun p _=>⟨Pu.pure,fun _=>Ar (Af rfl) (Af rfl) Aqt⟩) ⟨none,none,rfl⟩ (by rw[length_zip];omega)
   rw[filter_eq_self.mpr (fun _ _=>rfl)] at h;rw[map_map];exact h
  .unfold Sh;rw[all_map];rfl
end
section
variable {ns:List Int}
theorem keysAt (hl:ks.length<=big) (hk:∀k∈ks,isKey k=true) (n:Nat) (S:Store) (h:S[n]?=some (.lst (ks.map W.str))):∃G,Ec ns [.ref n] S=.ok (.bl (Sh ks)) (S ++ G):=
 Bfg (P:=SP.any.at n (ks.map W.str)) (fun _ h=>h.2) hl hk S ⟨trivial,h⟩
def rowsOk (rs:List (Str×Cl)):Prop:=rs.length<=63/\(∀r∈rs,isKey r.1=true/\r.2.ok=true)/\Sh (rs.map (·.1))=true
theorem Awf (h:rowsOk rs):Pu P (Tj ns [.tup (rs.map Ob)]) (.bl true):=by
 obtain⟨hl,hr,hk⟩:=h;have hb:rs.length<=big:=le_trans hl (by decide)
 apply Bq (ws:=[.tup (rs.map Ob)]) rfl;apply Bx
 .apply Dz
  .exact Em (Cz (Al (Ah (Ab (Af rfl) (Ab Ai Ag)) Uz))) (Al (Ar (Ah (Ab (Af rfl) Ag) Es) Ai R5))
  .simp;omega
  .exact Av
 apply Bx
 .apply Dz
  .apply Cz;apply Al;refine Nm (bs:=rs.map fun _=>true) ?_;have h:=Fz (P:=P) (xs:=rs) (φ:=Ob) (ψ:=fun _=>W.bl true) (t:=fun _=>pure true) (e:=Ff (Ae (Hn ns) (Aa (Ac 0) (Aa (kF (.int 2)) nilF))) (Ae (Ro ns) (Aa (ixF ns (Ac 0) (kF (.int 1))) nilF))) (cs:=[]) (cap:=[]) (δ:=Bw 1 [.tup (rs.map Ob)]) (src:=Eh ns (Ac 0)) (Gp (Af rfl)) rfl hb
    (fun r hr'=>⟨Pu.pure,Cp (Ah (Ab (Af rfl) (Ab Ai Ag)) (Aga [.str r.1,r.2.w] 2)) (Ah (Ab (Bh (Af rfl) Ai (Bc rfl)) Ag) (Awe r.2 (hr r hr').2))⟩)
   rw[map_map];exact h
  .simp
  .exact Av
 apply Bp;apply Bb;refine Pu.cast (Ac7 (ws:=(rs.map (·.1)).map W.str) ?_ (keysAt (by rw[length_map];exact hb) (fun k hk'=>by
  obtain⟨r,hr',rfl⟩:=mem_map.mp hk';exact(hr r hr').1))) (by rw[hk])
 have h:=Fz (P:=P) (xs:=rs) (φ:=Ob) (ψ:=fun r=>W.str r.1) (t:=fun _=>pure true) (e:=ixF ns (Ac 0) (kF (.int 0))) (cs:=[]) (cap:=[]) (δ:=Bw 1 [.tup (rs.map Ob)]) (src:=Eh ns (Ac 0)) (Gp (Af rfl)) rfl hb (fun r _=>⟨Pu.pure,Bh (Af rfl) Ai (Bc rfl)⟩);rw[map_map];exact h
theorem Ark (hl:ks.length<=63) (hk:∀k∈ks,isKey k=true) (hr:Sh ks=true):Pu P (Tp ns [.tup (ks.map W.str)]) (.bl true):=by
 apply Bq (ws:=[.tup (ks.map W.str)]) rfl;apply Bp;apply Bb;refine Cp (Ah (Ab (Af rfl) (Ab Ai Ag)) Uz) (Cp ((Ar (Ah (Ab (Af rfl) Ag) Es) Ai O9).cast (by simp;omega)) ?_)
 exact(Ah (Ab (Af rfl) Ag) (Bfh (le_trans hl (by decide)) hk)).cast (by rw[hr])
theorem Awg {ps:List Int} {m:Int} (hm:(ps.length:Int)=m) (hl:ps.length<=big) (hp:∀p∈ps,Gq p 1=true):Pu P (Tr ns [.tup (ps.map W.int),.int m]) (.bl true):=by
 apply Bq (ws:=[.tup (ps.map W.int),.int m]) rfl;apply Bp;apply Bb;refine Cp ((Ah (Ab (Af rfl) (Ab (Af rfl) Ag)) (Aga (ps.map W.int) m)).cast (by simp[hm])) ?_
 refine Pu.cast (Nm (bs:=ps.map fun _=>true) ?_) (by simp)
 have h:=Fz (P:=P) (xs:=ps) (φ:=W.int) (ψ:=fun _=>W.bl true) (t:=fun _=>pure true) (e:=Ae (Eg ns) (Aa (Ac 0) (Aa (kF (.int 1)) nilF))) (cs:=[]) (cap:=[]) (δ:=Bw 2 [.tup (ps.map W.int),.int m]) (src:=Eh ns (Ac 0)) (Gp (Af rfl)) rfl hl
  (fun p hp'=>⟨Pu.pure,(Ah (Ab (Af rfl) (Ab Ai Ag)) (Aii p 1)).cast (by rw[hp p hp'])⟩)
 rw[map_map];exact h
end
def Pg.ok:Pg->Prop
 |.head a b c d=>Gq a 0=true/\Gq b 0=true/\Gq c 0=true/\Gq d 0=true
 |.leaf rs=>rowsOk rs
 |.fork ks ps=>(ks.length<=63/\(∀k∈ks,isKey k=true)/\Sh ks=true)/\ps.length=ks.length+1/\∀p∈ps,Gq p 1=true
 |.rest t n=>M2.Dw t=true/\1<=t.length/\t.length<=400/\Gq n 0=true
 |.free n=>Gq n 0=true
def Pg.word:Pg->Str
 |.head ..=>"head"
 |.leaf ..=>"leaf"
 |.fork ..=>"fork"
 |.rest ..=>"rest"
 |.free ..=>"free"
section
variable {ns:List Int}
theorem Bb5 {n:Int} (h:Gq n 0=true):Pu P ((fun ws=>Eg ns (ws ++ [.int 0])) [.int n]) (.bl true):=(Aii n 0).cast (by rw[h])
theorem Aka {p:Pg} (h:p.ok):Pu P (M6 ns [p.w]) (.bl true):=by
 cases p with
 |head a b c d=>
  obtain⟨h1,h2,h3,h4⟩:=h;apply Bq (ws:=[Pg.w (.head a b c d)]) rfl;apply Bx
  .exact Bd (Ah (Ab (Af rfl) Ag) (Oa _ _))
  apply Bp;apply Nk
  .exact Al (Ar (Af rfl) Ai (Bt (by decide +kernel) (by decide +kernel)))
  .decide +kernel
  .apply Bp;apply Bb;refine Cp ((Ar (Ah (Ab (Af rfl) Ag) Es) Ai Ih).cast rfl) ?_;refine Pu.cast (Nm (bs:=[a,b,c,d].map fun _=>true) ?_) rfl;have h:=Fz (P:=P) (xs:=[a,b,c,d]) (φ:=W.int) (ψ:=fun _=>W.bl true) (t:=fun _=>pure true) (e:=Ae (fun ws=>Eg ns (ws ++ [(.int 0)])) (Aa (Ac 0) nilF)) (cs:=[]) (cap:=[]) (δ:=(Bw 2 [Pg.w (.head a b c d)]).set 1 (some (.str "head"))) (src:=Eh ns (slF ns (Ac 0) (Cg (kF (.int 1))) Bs)) (Gp (J8 (Af rfl) (Ed Ai) Ej Pu.pure)) rfl (show 4<=big by decide)
    (fun n hn=>⟨Pu.pure,Ah (Ab (Af rfl) Ag) (Bb5 (by
     simp only[mem_cons,not_mem_nil,or_false] at hn;rcases hn with rfl|rfl|rfl|rfl <;> assumption))⟩)
   exact h
 |leaf rs=>
  apply Bq (ws:=[Pg.w (.leaf rs)]) rfl;apply Bx
  .exact Bd (Ah (Ab (Af rfl) Ag) (Oa _ _))
  apply Bx
  .exact Dz (Al (Ar (Af rfl) Ai (Bt (by decide +kernel) (by decide +kernel)))) (by decide +kernel) Av
  apply Bp;apply Nk
  .exact Al (Ar (Af rfl) Ai (Bt (by decide +kernel) (by decide +kernel)))
  .decide +kernel
  .apply Bp;apply Bb;exact Cp ((Ar (Ah (Ab (Af rfl) Ag) Es) Ai Ih).cast rfl) (Ah (Ab (Bh (Af rfl) Ai (Bc rfl)) Ag) (Awf h))
 |fork ks ps=>
  obtain⟨⟨h1,h2,h3⟩,h4,h5⟩:=h;apply Bq (ws:=[Pg.w (.fork ks ps)]) rfl;apply Bx
  .exact Bd (Ah (Ab (Af rfl) Ag) (Oa _ _))
  apply Bx
  .exact Dz (Al (Ar (Af rfl) Ai (Bt (by decide +kernel) (by decide +kernel)))) (by decide +kernel) Av
  apply Bx
  .exact Dz (Al (Ar (Af rfl) Ai (Bt (by decide +kernel) (by decide +kernel)))) (by decide +kernel) Av
  apply Bp;apply Nk
  .exact Al (Ar (Af rfl) Ai (Bt (by decide +kernel) (by decide +kernel)))
  .decide +kernel
  .apply Bp;apply Bb;exact Cp ((Ar (Ah (Ab (Af rfl) Ag) Es) Ai Ih).cast rfl) (Cp (Ah (Ab (Bh (Af rfl) Ai (Bc rfl)) Ag) (Ark h1 h2 h3))
    (Ah (Ab (Bh (Af rfl) Ai (Bc rfl)) (Ab (An (Ah (Ab (Bh (Af rfl) Ai (Bc rfl)) Ag) Es) Ai Cr) Ag)) (Awg (by rw[length_map,h4];rfl) (by rw[h4];exact le_trans (succ_le_succ h1) (by decide)) h5)))
 |rest t n=>
  obtain⟨h1,h2,h3,h4⟩:=h;apply Bq (ws:=[Pg.w (.rest t n)]) rfl;apply Bx
  .exact Bd (Ah (Ab (Af rfl) Ag) (Oa _ _))
  apply Bx
  .exact Dz (Al (Ar (Af rfl) Ai (Bt (by decide +kernel) (by decide +kernel)))) (by decide +kernel) Av
  apply Bx
  .exact Dz (Al (Ar (Af rfl) Ai (Bt (by decide +kernel) (by decide +kernel)))) (by decide +kernel) Av
  apply Bx
  .exact Dz (Al (Ar (Af rfl) Ai (Bt (by decide +kernel) (by decide +kernel)))) (by decide +kernel) Av
  apply Bp;apply Nk
  .exact Al (Ar (Af rfl) Ai (Bt (by decide +kernel) (by decide +kernel)))
  .decide +kernel
  .apply Bp;apply Bb;exact Cp ((Ar (Ah (Ab (Af rfl) Ag) Es) Ai Ih).cast rfl) (Cp ((Ah (Ab (Bh (Af rfl) Ai (Bc rfl)) (Ab Ai (Ab Ai Ag))) (Aby t 1 400 (le_trans h3 (by decide)))).cast (by
    rw[h1,decide_eq_true (by omega),decide_eq_true (by omega)];rfl)) (Ah (Ab (Bh (Af rfl) Ai (Bc rfl)) Ag) (Bb5 h4)))
 |free n=>
  apply Bq (ws:=[Pg.w (.free n)]) rfl;apply Bx
  .exact Bd (Ah (Ab (Af rfl) Ag) (Oa _ _))
  apply Bx
  .exact Dz (Al (Ar (Af rfl) Ai (Bt (by decide +kernel) (by decide +kernel)))) (by decide +kernel) Av
  apply Bx
  .exact Dz (Al (Ar (Af rfl) Ai (Bt (by decide +kernel) (by decide +kernel)))) (by decide +kernel) Av
  apply Bx
  .exact Dz (Al (Ar (Af rfl) Ai (Bt (by decide +kernel) (by decide +kernel)))) (by decide +kernel) Av
  apply Bx
  .exact Dz (Al (Ar (Af rfl) Ai (Bt (by decide +kernel) (by decide +kernel)))) (by decide +kernel) Av
  apply Bp;apply Nk
  .exact Al (Ar (Af rfl) Ai (Bt (by decide +kernel) (by decide +kernel)))
  .decide +kernel
  .apply Bp;apply Bb;exact Cp ((Ar (Ah (Ab (Af rfl) Ag) Es) Ai Ih).cast rfl) (Ah (Ab (Bh (Af rfl) Ai (Bc rfl)) Ag) (Bb5 h))
end
abbrev jn (ys:List Str):Str:=Txt.join "" ys
def Ho (ps:List Int):Str:=jn (ps.map (M1.Bu 2))
def Gr (k:Str):Str:=M1.Bu 1 k.length ++ k
def Cl.t:Cl->Str
 |.inn t=>"i" ++ M1.Bu 1 t.length ++ t
 |.out n p=>"o" ++ Ho [n,p]
def Jd (r:Str×Cl):Str:=Gr r.1 ++ r.2.t
def Pg.body:Pg->Str
 |.head a b c d=>Ho [a,b,c,d]
 |.leaf rs=>M1.Bu 1 rs.length ++ jn (rs.map Jd)
 |.fork ks ps=>M1.Bu 1 ks.length ++ jn (ks.map Gr) ++ Ho ps
 |.rest t n=>Ho [n] ++ t
 |.free n=>Ho [n]
theorem len_app (x y:Str):(x ++ y).length=x.length+y.length:=by
 show (x.cps ++ y.cps).size=_;rw[Array.size_append];rfl
theorem Bj (k:Nat) (n:Int):(M1.Bu k n).length=k:=M1.Amc k n
theorem Arl {ys:List Str} {c:Nat} (h:∀y∈ys,y.length<=c):(ys.map (·.length)).sum<=ys.length * c:=by
 induction ys with
 |nil=>simp
 |cons y ys ih=>
  have h1:=h y mem_cons_self;have h2:=ih fun z hz=>h z (mem_cons_of_mem _ hz);rw[map_cons,sum_cons,length_cons,Nat.succ_mul];omega
theorem Q8:jn []=⟨#[]⟩:=rfl
theorem Dh (x:Str):x ++ (⟨#[]⟩:Str)=x:=by
 show (⟨x.cps ++ #[]⟩:Str)=x;rw[append_empty]
theorem G6 (y:Str) (ys:List Str):jn (y::ys)=y ++ jn ys:=by
 have e:∀l,jn l=Str.join "" l:=fun l=>StrLaws.glued_eq_join "" l;rw[e,e];cases ys with
 |nil=>exact(Dh y).symm
 |cons z zs=>
  show y ++ "" ++ Str.join "" (z::zs)=y ++ Str.join "" (z::zs);rw[show y ++ ("":Str)=y from Dh y]
theorem V4:∀ys:List Str,(jn ys).length=(ys.map (·.length)).sum
 |[]=>rfl
 |y::ys=>by rw[G6,len_app,V4 ys,map_cons,sum_cons]
section
variable {ns:List Int}
theorem U4 {δ:De} {f:De->M W} {ys:List Str} {c:Nat} (h:PuL P (f δ) (ys.map W.str)) (hc:∀y∈ys,y.length<=c) (hl:ys.length * c<=big):Pu P (Jc .str Ko (kF (.str "")) (Aa f nilF) δ) (.str (jn ys)):=
 Av4 h (by
  have:=Arl hc;show (ys.map (·.length)).sum+ys.length * 0<=big;omega)
theorem U5 {ps:List Int} (hp:∀p∈ps,0<=p/\p < 4096) (hl:ps.length<=1000):Pu P (Fe ns [.tup (ps.map W.int)]) (.str (Ho ps)):=by
 apply Bq (ws:=[.tup (ps.map W.int)]) rfl;apply Bp;apply Bb;refine U4 (c:=2) ?_ (fun y hy=>?_) (by rw[length_map];exact le_trans (mul_le_mul_right 2 hl) (by decide))
 .have h:=Fz (P:=P) (xs:=ps) (φ:=W.int) (ψ:=fun p=>W.str (M1.Bu 2 p)) (t:=fun _=>pure true) (e:=Ae (Ga ns) (Aa (Ac 0) (Aa (kF (.int 2)) nilF))) (cs:=[]) (cap:=[]) (δ:=Bw 1 [.tup (ps.map W.int)]) (src:=Eh ns (Ac 0)) (Gp (Af rfl)) rfl (le_trans hl (by decide))
   (fun p hp'=>⟨Pu.pure,Ah (Ab (Af rfl) (Ab Ai Ag)) (Ado (hp p hp').1 (hp p hp').2)⟩)
  rw[map_map];exact h
 .obtain⟨p,_,rfl⟩:=mem_map.mp hy;exact le_of_eq (Bj 2 p)
theorem Eb {n k:Int} (h:Gq n k=true) (hk:0<=k):0<=n/\n < 4096:=by
 unfold Gq at h;simp only[and_eq_true,decide_eq_true_eq] at h;omega
theorem Awh {n:Nat} (h:n<=63):Pu P (Ga ns [.int (n:Int),.int 1]) (.str (M1.Bu 1 n)):=Awc (by omega) (by omega)
theorem Akb (h:isKey k=true):Pu P (Ky ns [.str k]) (.str (Gr k)):=by
 have hk:=U0 h;unfold isKey at h;simp only[and_eq_true,decide_eq_true_eq] at h;apply Bq (ws:=[.str k]) rfl;apply Bp;apply Bb;exact An (Ah (Ab (Ah (Ab (Af rfl) Ag) (len_str hk)) (Ab Ai Ag)) (Awh (by omega))) (Af rfl) (Ca (by rw[Bj];exact le_trans (add_le_add_left h.2.2 1) (by decide)))
theorem Arm {c:Cl} (h:c.ok=true):Pu P (Qi ns [c.w]) (.str c.t):=by
 cases c with
 |inn t=>
  unfold Cl.ok at h;rw[and_eq_true,decide_eq_true_eq] at h;have ht:t.length<=big:=le_trans h.2 (by decide)
  apply Bq (ws:=[Cl.w (.inn t)]) rfl;apply Bp;apply Nk
  .exact Al (Ar (Bh (Af rfl) Ai (Bc rfl)) Ai (Bt (by decide +kernel) (by decide +kernel)))
  .decide +kernel
  .apply Bp;apply Bb;exact An (An Ai (Ah (Ab (Ah (Ab (Bh (Af rfl) Ai (Bc rfl)) Ag) (len_str ht)) (Ab Ai Ag)) (Awh h.2)) (Ca (by rw[Bj];decide))) (Bh (Af rfl) Ai (Bc rfl)) (Ca (by
    rw[len_app,Bj];exact le_trans (add_le_add_left h.2 _) (by decide)))
 |out n p=>
  unfold Cl.ok at h;rw[and_eq_true,and_eq_true,decide_eq_true_eq,decide_eq_true_eq] at h;apply Bq (ws:=[Cl.w (.out n p)]) rfl;apply Bx
  .exact Dz (Al (Ar (Bh (Af rfl) Ai (Bc rfl)) Ai (Bt (by decide +kernel) (by decide +kernel)))) (by decide +kernel) Av
  .apply Bp;apply Bb;exact An Ai (Ah (Ab (J8 (Af rfl) (Ed Ai) Ej Pu.pure) Ag) (U5 (ps:=[n,p]) (fun q hq=>by
    simp only[mem_cons,not_mem_nil,or_false] at hq;rcases hq with rfl|rfl
    .omega
    .exact Eb h.2 (by decide)) (show 2<=1000 by decide))) (Ca (by
     unfold Ho;rw[V4];show 1+((M1.Bu 2 n).length+((M1.Bu 2 p).length+0))<=big;rw[Bj,Bj];decide))
end
section
variable {ns:List Int}
theorem K3 (h:isKey k=true):(Gr k).length<=13:=by
 unfold isKey at h;simp only[and_eq_true,decide_eq_true_eq] at h;unfold Gr;rw[len_app,Bj];omega
theorem Abz {c:Cl} (h:c.ok=true):c.t.length<=65:=by
 cases c with
 |inn t=>
  unfold Cl.ok at h;rw[and_eq_true,decide_eq_true_eq] at h;unfold Cl.t;rw[len_app,len_app,Bj];show 1+1+t.length<=65;omega
 |out n p=>
  unfold Cl.t Ho;rw[len_app,V4];show 1+((M1.Bu 2 n).length+((M1.Bu 2 p).length+0))<=65;rw[Bj,Bj];decide
theorem Z1 (h1:isKey r.1=true) (h2:r.2.ok=true):(Jd r).length<=78:=by
 unfold Jd;rw[len_app];have:=K3 h1;have:=Abz h2;omega
theorem Awi {r:Str×Cl} (h1:isKey r.1=true) (h2:r.2.ok=true):Pu P (N8 ns [Ob r]) (.str (Jd r)):=by
 apply Bq (ws:=[Ob r]) rfl;apply Bp;apply Bb;exact An (Ah (Ab (Bh (Af rfl) Ai (Bc rfl)) Ag) (Akb h1)) (Ah (Ab (Bh (Af rfl) Ai (Bc rfl)) Ag) (Arm h2)) (Ca (by
  have:=K3 h1;have:=Abz h2;exact le_trans (Nat.add_le_add ‹_› ‹_›) (by decide)))
theorem Ab0 {c n:Nat} (h:∀y∈ys,y.length<=c) (hn:ys.length<=n):(jn ys).length<=n * c:=by
 rw[V4];exact le_trans (Arl h) (mul_le_mul_right c hn)
theorem Js (ps:List Int):(Ho ps).length=2 * ps.length:=by
 unfold Ho;rw[V4,map_map];induction ps with
 |nil=>rfl
 |cons p ps ih=>
  rw[map_cons,sum_cons,ih,length_cons];show (M1.Bu 2 p).length+_=_;rw[Bj];omega
theorem Akc {p:Pg} (h:p.ok):Pu P (Lw ns [p.w]) (.str p.body):=by
 cases p with
 |head a b c d=>
  obtain⟨h1,h2,h3,h4⟩:=h;apply Bq (ws:=[Pg.w (.head a b c d)]) rfl;apply Bx
  .exact Dz (Al (Ar (Bh (Af rfl) Ai (Bc rfl)) Ai (Bt (by decide +kernel) (by decide +kernel)))) (by decide +kernel) Av
  apply Bx
  .exact Dz (Al (Ar (Bh (Af rfl) Ai (Bc rfl)) Ai (Bt (by decide +kernel) (by decide +kernel)))) (by decide +kernel) Av
  apply Bx
  .exact Dz (Al (Ar (Bh (Af rfl) Ai (Bc rfl)) Ai (Bt (by decide +kernel) (by decide +kernel)))) (by decide +kernel) Av
  apply Bp;apply Bb;exact Ah (Ab (J8 (Af rfl) (Ed Ai) Ej Pu.pure) Ag) (U5 (ps:=[a,b,c,d]) (fun q hq=>by
   simp only[mem_cons,not_mem_nil,or_false] at hq;rcases hq with rfl|rfl|rfl|rfl <;> exact Eb ‹_› (by decide)) (show 4<=1000 by decide))
 |leaf rs=>
  obtain⟨h1,h2,h3⟩:=h;apply Bq (ws:=[Pg.w (.leaf rs)]) rfl;apply Bp;apply Nk
  .exact Al (Ar (Bh (Af rfl) Ai (Bc rfl)) Ai (Bt (by decide +kernel) (by decide +kernel)))
  .decide +kernel
  .apply Bp;apply Bb;have hc:∀y∈rs.map Jd,y.length<=78:=fun y hy=>by
    obtain⟨r,hr,rfl⟩:=mem_map.mp hy;exact Z1 (h2 r hr).1 (h2 r hr).2
   refine An (y:=.str (jn (rs.map Jd))) (Ah (Ab ((Ah (Ab (Bh (Af rfl) Ai (Bc rfl)) Ag) Es).cast (by rw[length_map])) (Ab Ai Ag)) (Awh h1)) ?_ (Ca (by
    rw[Bj];exact le_trans (add_le_add_left (Ab0 hc (by rw[length_map];exact h1)) 1) (by decide)))
   refine U4 (c:=78) ?_ hc (by rw[length_map];exact le_trans (mul_le_mul_right 78 h1) (by decide))
   have h:=Fz (P:=P) (xs:=rs) (φ:=Ob) (ψ:=fun r=>W.str (Jd r)) (t:=fun _=>pure true) (e:=Ae (N8 ns) (Aa (Ac 0) nilF)) (cs:=[]) (cap:=[]) (δ:=Bw 2 [Pg.w (.leaf rs)]) (src:=Eh ns (ixF ns (Ac 0) (kF (.int 1)))) (Gp (Bh (Af rfl) Ai (Bc rfl))) rfl (le_trans h1 (by decide))
    (fun r hr=>⟨Pu.pure,Ah (Ab (Af rfl) Ag) (Awi (h2 r hr).1 (h2 r hr).2)⟩)
   rw[map_map];exact h
 |fork ks ps=>
  obtain⟨⟨h1,h2,h3⟩,h4,h5⟩:=h;have hc:∀y∈ks.map Gr,y.length<=13:=fun y hy=>by
   obtain⟨k,hk,rfl⟩:=mem_map.mp hy;exact K3 (h2 k hk)
  have hj:(jn (ks.map Gr)).length<=63 * 13:=Ab0 hc (by rw[length_map];exact h1)
  apply Bq (ws:=[Pg.w (.fork ks ps)]) rfl;apply Bx
  .exact Dz (Al (Ar (Bh (Af rfl) Ai (Bc rfl)) Ai (Bt (by decide +kernel) (by decide +kernel)))) (by decide +kernel) Av
  apply Bp;apply Nk
  .exact Al (Ar (Bh (Af rfl) Ai (Bc rfl)) Ai (Bt (by decide +kernel) (by decide +kernel)))
  .decide +kernel
  .refine Bx (Bd (w:=.str (jn (ks.map Gr))) ?_) ?_
   .refine U4 (c:=13) ?_ hc (by rw[length_map];exact le_trans (mul_le_mul_right 13 h1) (by decide))
    have h:=Fz (P:=P) (xs:=ks) (φ:=W.str) (ψ:=fun k=>W.str (Gr k)) (t:=fun _=>pure true) (e:=Ae (Ky ns) (Aa (Ac 0) nilF)) (cs:=[]) (cap:=[]) (δ:=Bw 2 [Pg.w (.fork ks ps)]) (src:=Eh ns (ixF ns (Ac 0) (kF (.int 1)))) (Gp (Bh (Af rfl) Ai (Bc rfl))) rfl (le_trans h1 (by decide))
     (fun k hk=>⟨Pu.pure,Ah (Ab (Af rfl) Ag) (Akb (h2 k hk))⟩)
    rw[map_map];exact h
   .apply Bp;apply Bb;refine An (An (Ah (Ab ((Ah (Ab (Bh (Af rfl) Ai (Bc rfl)) Ag) Es).cast (by rw[length_map])) (Ab Ai Ag)) (Awh h1)) (Af rfl) (Ca ?_)) (Ah (Ab (Bh (Af rfl) Ai (Bc rfl)) Ag) (U5 (fun q hq=>Eb (h5 q hq) (by decide)) (by omega))) (Ca ?_)
    .rw[Bj];exact le_trans (add_le_add_left hj 1) (by decide)
    .rw[len_app,Bj,Js];have:1+(jn (ks.map Gr)).length+2 * ps.length<=1+63 * 13+128:=by omega
     exact le_trans this (by decide)
 |rest t n=>
  obtain⟨h1,h2,h3,h4⟩:=h;apply Bq (ws:=[Pg.w (.rest t n)]) rfl;apply Bx
  .exact Dz (Al (Ar (Bh (Af rfl) Ai (Bc rfl)) Ai (Bt (by decide +kernel) (by decide +kernel)))) (by decide +kernel) Av
  apply Bx
  .exact Dz (Al (Ar (Bh (Af rfl) Ai (Bc rfl)) Ai (Bt (by decide +kernel) (by decide +kernel)))) (by decide +kernel) Av
  apply Bp;apply Nk
  .exact Al (Ar (Bh (Af rfl) Ai (Bc rfl)) Ai (Bt (by decide +kernel) (by decide +kernel)))
  .decide +kernel
  .apply Bp;apply Bb;exact An (Ah (Ab (J8 (Af rfl) (Ed Ai) Ej Pu.pure) Ag) (U5 (ps:=[n]) (fun q hq=>by
    rw[mem_singleton] at hq;subst hq;exact Eb h4 (by decide)) (show 1<=1000 by decide))) (Bh (Af rfl) Ai (Bc rfl)) (Ca (by
     rw[Js];exact le_trans (add_le_add_left h3 _) (show 2 * 1+400<=big by decide)))
 |free n=>
  apply Bq (ws:=[Pg.w (.free n)]) rfl;apply Bx
  .exact Dz (Al (Ar (Bh (Af rfl) Ai (Bc rfl)) Ai (Bt (by decide +kernel) (by decide +kernel)))) (by decide +kernel) Av
  apply Bx
  .exact Dz (Al (Ar (Bh (Af rfl) Ai (Bc rfl)) Ai (Bt (by decide +kernel) (by decide +kernel)))) (by decide +kernel) Av
  apply Bx
  .exact Dz (Al (Ar (Bh (Af rfl) Ai (Bc rfl)) Ai (Bt (by decide +kernel) (by decide +kernel)))) (by decide +kernel) Av
  apply Bp;apply Bb;exact Ah (Ab (J8 (Af rfl) (Ed Ai) Ej Pu.pure) Ag) (U5 (ps:=[n]) (fun q hq=>by
   rw[mem_singleton] at hq;subst hq;exact Eb h (by decide)) (show 1<=1000 by decide))
theorem Amz {p:Pg} (h:p.ok):Pu P (V0 ns [p.w]) (.str p.body):=by
 apply Bq (ws:=[p.w]) rfl;apply Bx
 .exact Dz (Cz (Al (Ah (Ab (Af rfl) Ag) (Aka h)))) rfl Av
 .exact Bp (Bb (Ah (Ab (Af rfl) Ag) (Akc h)))
end
section
variable {ns:List Int}
theorem Rr {k:Nat} (h:k<=1000001):small (k:Int)=true:=by
 unfold small;have e:(2:Int) ^ 64=18446744073709551616:=by decide +kernel
 rw[e,and_eq_true,decide_eq_true_eq,decide_eq_true_eq];omega
theorem Agb (hz:z.length<=big) (ht:M2.Dw z=true):Pu P (N6 ns [.str z]) (.str (M2.check z)):=by
 have hsz:z.cps.toList.length=z.length:=length_toList;apply Bq (ws:=[.str z]) rfl;apply Bx
 .exact Dz (Cz (Al (Ah (Ab (Af rfl) Ag) (Adp z hz)))) (by rw[ht];rfl) Av
 refine Bx (Bd (w:=.int (M2.chk z.cps.toList)) ?_) ?_
 .refine Pu.cast (Aqu (is:=(List.range z.length).map fun(i:Nat)=>(((z.cps.getD i 0:Nat):Int) - 31) * ((i:Int)+1)) ?_) ?_
  .have h:=Ajz (P:=P) (xs:=List.range z.length) (φ:=fun(i:Nat)=>W.tup [.int ((i:Int)+1),.str ⟨#[z.cps.getD i 0]⟩]) (ψ:=fun(i:Nat)=>W.int ((((z.cps.getD i 0:Nat):Int) - 31) * ((i:Int)+1))) (τ:=fun _=>true) (s:=W9 [0,1]) (t:=fun _=>pure true) (e:=Ao .mul (Ao .sub (Ae Ao8 (Aa (Ac 1) nilF)) (kF (.int 31))) (Ac 0)) (k:=2) (cap:=[]) (δ:=Bw 2 [.str z]) (src:=Aje (Ac 0))
    (Pu.bind (Af rfl) Pu.pure) Ahv (fun i hi=>⟨Pu.pure,fun _=>An (An (Ah (Ab (Af rfl) Ag) Awd) Ai Gn) (Af rfl) (Ie (by
     have:i < z.length:=mem_range.mp hi;have h2:small (((i+1:Nat):Nat):Int)=true:=Rr (by unfold big at hz;omega)
     rw[or_eq_true];exact .inr h2))⟩) ⟨none,none,rfl⟩ (by rw[length_range];exact hz)
   rw[filter_eq_self.mpr (fun _ _=>rfl)] at h;rw[map_map];exact h
  .congr 1
   unfold M2.chk M2.Td;rw[hsz]
   congr 1
   refine List.map_congr_left fun i hi=>?_;rw[show z.cps.toList.getD i 0=z.cps.getD i 0 from by rw[getD_eq_getElem?_getD,getElem?_toList,Array.getD_eq_getD_getElem?]]
   rw[show (((z.cps.getD i 0:Nat):Int) - 32+1)=((z.cps.getD i 0:Nat):Int) - 31 by omega]
 .apply Bp;apply Bb;exact Ah (Ab (An (Af rfl) Ai (Cd (by decide))) (Ab Ai Ag)) (Ado (by omega) (by omega))
end
theorem Fy (x y:Str):M2.Dw (x ++ y)=(M2.Dw x&&M2.Dw y):=by
 unfold M2.Dw;show ((x.cps ++ y.cps).toList).all _=_;rw[toList_append,List.all_append]
theorem Bfi:∀v,v < 64->M2.okC (M1.sg v)=true:=by decide +kernel
theorem Adq (c:Nat):M2.Dw (M1.one c)=M2.okC c:=by
 unfold M2.Dw M1.one;simp
theorem Tv (k:Nat) (n:Int):M2.Dw (M1.Bu k n)=true:=by
 induction k with
 |zero=>rfl
 |succ k ih=>
  show M2.Dw (M1.one _ ++ M1.Bu k n)=true;rw[Fy,ih,Adq,Bfi _ (by omega)]
  rfl
theorem Agc:∀{ys:List Str},(∀y∈ys,M2.Dw y=true)->M2.Dw (jn ys)=true
 |[],_=>rfl
 |y::ys,h=>by
  rw[G6,Fy,h y mem_cons_self,Agc fun z hz=>h z (mem_cons_of_mem _ hz)];rfl
theorem U6 (ps:List Int):M2.Dw (Ho ps)=true:=Agc fun y hy=>by
 obtain⟨p,_,rfl⟩:=mem_map.mp hy;exact Tv 2 p
theorem Z2 (h:isKey k=true):M2.Dw k=true:=by
 unfold isKey at h;rw[and_eq_true] at h;exact h.1
theorem Arn (h:isKey k=true):M2.Dw (Gr k)=true:=by
 unfold Gr;rw[Fy,Tv,Z2 h];rfl
theorem Awj {c:Cl} (h:c.ok=true):M2.Dw c.t=true:=by
 cases c with
 |inn t=>
  unfold Cl.ok at h;rw[and_eq_true] at h;unfold Cl.t;rw[Fy,Fy,Tv,h.1];decide +kernel
 |out n p=>
  unfold Cl.t;rw[Fy,U6];decide +kernel
theorem Awk {p:Pg} (h:p.ok):M2.Dw p.body=true:=by
 cases p with
 |head a b c d=>exact U6 _
 |leaf rs=>
  unfold Pg.body;rw[Fy,Tv,Agc fun y hy=>by
   obtain⟨r,hr,rfl⟩:=mem_map.mp hy;unfold Jd;rw[Fy,Arn (h.2.1 r hr).1,Awj (h.2.1 r hr).2];rfl]
  rfl
 |fork ks ps=>
  unfold Pg.body;rw[Fy,Fy,Tv,U6,Agc fun y hy=>by
   obtain⟨k,hk,rfl⟩:=mem_map.mp hy;exact Arn (h.1.2.1 k hk)]
  rfl
 |rest t n=>
  unfold Pg.body;rw[Fy,U6,h.1];rfl
 |free n=>exact U6 _
def Pg.letter:Pg->Str
 |.head ..=>"h"
 |.leaf ..=>"l"
 |.fork ..=>"f"
 |.rest ..=>"r"
 |.free ..=>"e"
def Pg.start (p:Pg):Str:=p.letter ++ M1.Bu 2 p.body.length ++ p.body
def Pg.unch (p:Pg) (size:Int):Str:=Txt.ljustF p.start (size - 2) 48
def Pg.text (p:Pg) (size:Int):Str:=p.unch size ++ M2.check (p.unch size)
theorem Hu (p:Pg):p.letter.length=1:=by cases p <;> rfl
theorem V5 (p:Pg):p.start.length=3+p.body.length:=by
 unfold Pg.start;rw[len_app,len_app,Hu,Bj]
theorem Akd (p:Pg) (size:Int):∃n,(p.unch size).cps=p.start.cps ++ Array.replicate n 48:=by
 unfold Pg.unch Txt.ljustF;split
 .exact⟨0,by simp⟩
 .refine⟨(size - 2).toNat - p.start.length,?_⟩;show Array.replicate 0 48 ++ p.start.cps ++ Array.replicate ((size - 2).toNat - p.start.length) 48=_;simp
section
variable {ns:List Int}
theorem Adr (p:Pg):∃ws,p.w=.tup (.str p.word::ws):=by cases p <;> exact⟨_,rfl⟩
theorem ix0:atI (w::ws) 0=some w:=by
 unfold atI ixN;rw[if_pos (by decide),if_pos (by rw[length_cons];omega)]
 rfl
theorem Am0 (p:Pg):Pu P (mdW Gb (.str p.word)) (.str p.letter):=by
 have e:Gb.lookup p.word=some p.letter:=by
  cases p
  .exact(by decide +kernel:Gb.lookup ("head":Str)=some ("h":Str))
  .exact(by decide +kernel:Gb.lookup ("leaf":Str)=some ("l":Str))
  .exact(by decide +kernel:Gb.lookup ("fork":Str)=some ("f":Str))
  .exact(by decide +kernel:Gb.lookup ("rest":Str)=some ("r":Str))
  .exact(by decide +kernel:Gb.lookup ("free":Str)=some ("e":Str))
 unfold mdW;simp only[e];exact Pu.pure
theorem Bfj (h1:Pu P (g δ) k) (h2:Pu P (mdW D k) w):Pu P (mdF D g δ) w:=h1.bind h2
theorem Ake {p:Pg} {size:Int} (hb:p.body.length<=195) (h1:64<=size) (h2:size<=200):Pu P (G4 ns [p.w,.str p.body,.int size]) (.str (p.unch size)):=by
 obtain⟨ws,ew⟩:=Adr p;rw[ew];have hbb:p.body.length<=big:=le_trans hb (by decide)
 apply Bq (ws:=[.tup (.str p.word::ws),.str p.body,.int size]) rfl;refine Bx (Bd (w:=.str p.start) ?_) ?_
 .refine An (An (Bfj (Bh (Af rfl) Ai (Bc ix0)) (Am0 p)) (Ah (Ab (Ah (Ab (Af rfl) Ag) (len_str hbb)) (Ab Ai Ag)) (Ado (by omega) (by omega))) (Ca ?_)) (Af rfl) (Ca ?_)
  .rw[Hu,Bj];decide
  .rw[len_app,Hu,Bj];exact le_trans (add_le_add_left hb _) (by decide)
 .apply Bp;apply Bb;refine V3 (Af rfl) (Ab (An (Af rfl) Ai Gn) (Ab Ai Ag)) (G8 ?_ Pu.pure);rw[and_eq_true];refine⟨?_,by decide +kernel⟩
  have e:∀k:Nat,k<=200->PadOk (k:Int)=true:=by decide +kernel
  have:=e (size - 2).toNat (by omega)
  rw[toNat_of_nonneg (by omega)] at this
  exact this
theorem Am1 (p:Pg):M2.Dw p.letter=true:=by
 cases p
 .exact(by decide +kernel:M2.Dw ("h":Str)=true)
 .exact(by decide +kernel:M2.Dw ("l":Str)=true)
 .exact(by decide +kernel:M2.Dw ("f":Str)=true)
 .exact(by decide +kernel:M2.Dw ("r":Str)=true)
 .exact(by decide +kernel:M2.Dw ("e":Str)=true)
theorem Xp {p:Pg} (h:p.ok) (size:Int):M2.Dw (p.unch size)=true:=by
 obtain⟨n,e⟩:=Akd p size;unfold M2.Dw;rw[e,toList_append,List.all_append];have h1:M2.Dw p.start=true:=by
  unfold Pg.start;rw[Fy,Fy,Tv,Awk h,Am1 p];rfl
 unfold M2.Dw at h1;rw[h1,Array.toList_replicate,Bool.true_and];rw[all_eq_true];intro c hc;obtain⟨_,rfl⟩:=List.mem_replicate.mp hc;decide
theorem K4 {p:Pg} {size:Int} (hb:(p.body.length:Int)<=size - 5):(p.unch size).length=(size - 2).toNat:=by
 unfold Pg.unch Txt.ljustF;have:=V5 p;split
 .omega
 .show (Array.replicate 0 48 ++ p.start.cps ++ Array.replicate ((size - 2).toNat - p.start.length) 48).size=_;simp;show p.start.length+_=_;omega
theorem U7 (i:Int):Pu P (Rp ns [.int i]) (.bl (decide (64<=i)&&decide (i<=200))):=by
 apply Bq (ws:=[.int i]) rfl;apply Bp;apply Bb;exact Cp (Ah (Ab (Af rfl) Ag) (Jr i)) (Pa Ai (Af rfl) O9 Ai O9)
theorem Awl (i:Int):Pu P (V2 ns [.int i]) (.int (i - 5)):=by
 apply Bq (ws:=[.int i]) rfl;apply Bp;apply Bb;exact An (Af rfl) Ai Gn
theorem V6 (x:Str):(M2.check x).length=2:=Bj 2 _
theorem Ads {p:Pg} {size:Int} (h:p.ok) (h1:64<=size) (h2:size<=200) (hb:(p.body.length:Int)<=size - 5):Pu P (Q7 ns [p.w,.int size]) (.str (p.text size)):=by
 have hbb:p.body.length<=195:=by omega
 have hu:(p.unch size).length<=big:=by rw[K4 hb];exact le_trans (show (size - 2).toNat<=200 by omega) (by decide)
 apply Bq (ws:=[p.w,.int size]) rfl;refine Bx (Bd (Ah (Ab (Af rfl) Ag) (Amz h))) ?_;apply Bx
 .exact Dz (Cz (Al (Ah (Ab (Af rfl) Ag) (U7 size)))) (by rw[decide_eq_true h1,decide_eq_true h2];rfl) Av
 apply Bx
 .refine Dz (Al (Ar (Ah (Ab (Af rfl) Ag) (len_str (le_trans hbb (by decide)))) (Ah (Ab (Af rfl) Ag) (Awl size)) R5)) ?_ Av
  rw[decide_eq_false_iff_not];omega
 refine Bx (Bd (Ah (Ab (Af rfl) (Ab (Af rfl) (Ab (Af rfl) Ag))) (Ake hbb h1 h2))) ?_;apply Bp;apply Bb;exact An (Af rfl) (Ah (Ab (Af rfl) Ag) (Agb hu (Xp h size))) (Ca (by
  rw[V6,K4 hb];exact le_trans (show (size - 2).toNat+2<=400 by omega) (by decide)))
end
section
variable {ns:List Int}
theorem Aro {i:Int} (h:Pu P (f δ) (.int i)):Pu P (Xc f δ) (.int (-i)):=h.bind Pu.pure
end
section
variable {ns:List Int}
theorem Agd {n:Int} (h0:0<=n):Pu P (Bl ns [.int n,.int 1]) (.str (M1.Bu 1 n)):=by
 apply Bq (ws:=[.int n,.int 1]) rfl;refine Bx (Bd Ai) ?_;refine Bx (Bd Ai) ?_;apply Bx
 .apply Lj
  .exact Ig (k:=1) (Ab (Af rfl) Ag) (by decide)
  .apply Jz rfl
   .exact Mf (Bd (An (Bh (Af rfl) (An (Af rfl) Ai (Cd (by decide))) (Xo (n % 64) (by omega) (by omega))) (Af rfl) (Ca (by show 1+0<=big;decide)))) (Mf (Bd (An (Af rfl) Ai (Dm (by decide) (by decide)))) Av)
   .exact Rk
 apply Bp;apply Bb;refine Pu.cast (Af rfl) ?_;show W.str (M1.one (M1.sg (n % 64).toNat) ++ ⟨#[]⟩)=W.str (M1.one (M1.sg (n / 64 ^ 0 % 64).toNat) ++ ⟨#[]⟩);rw[pow_zero,ediv_one]
theorem Ab1 {n:Int} (h0:0<=n):Pu P (Bl ns [.int n,.int 2]) (.str (M1.Bu 2 n)):=by
 apply Bq (ws:=[.int n,.int 2]) rfl;refine Bx (Bd Ai) ?_;refine Bx (Bd Ai) ?_;apply Bx
 .apply Lj
  .exact Ig (k:=2) (Ab (Af rfl) Ag) (by decide)
  .apply Jz rfl
   .exact Mf (Bd (An (Bh (Af rfl) (An (Af rfl) Ai (Cd (by decide))) (Xo (n % 64) (by omega) (by omega))) (Af rfl) (Ca (by show 1+0<=big;decide)))) (Mf (Bd (An (Af rfl) Ai (Dm (by decide) (by decide)))) Av)
   apply Jz rfl
   .exact Mf (Bd (An (Bh (Af rfl) (An (Af rfl) Ai (Cd (by decide))) (Xo (n / 64 % 64) (by omega) (by omega))) (Af rfl) (Ca (by show 1+(1+0)<=big;decide)))) (Mf (Bd (An (Af rfl) Ai (Dm (by decide) (by decide)))) Av)
   .exact Rk
 apply Bp;apply Bb;refine Pu.cast (Af rfl) ?_;show W.str (M1.one (M1.sg (n / 64 % 64).toNat) ++ (M1.one (M1.sg (n % 64).toNat) ++ ⟨#[]⟩))=W.str (M1.one (M1.sg (n / 64 ^ 1 % 64).toNat) ++ (M1.one (M1.sg (n / 64 ^ 0 % 64).toNat) ++ ⟨#[]⟩));rw[pow_zero,ediv_one];rfl
end
theorem Bk (x y z:Str):x ++ y ++ z=x ++ (y ++ z):=by
 show (⟨x.cps ++ y.cps ++ z.cps⟩:Str)=⟨x.cps ++ (y.cps ++ z.cps)⟩;rw[Array.append_assoc]
theorem Xq:∀(ys:List Str) (y:Str),jn (ys ++ [y])=jn ys ++ y
 |[],y=>by
  rw[nil_append,G6,Q8,Dh];show y=⟨#[] ++ y.cps⟩;rw[empty_append]
 |x::ys,y=>by rw[cons_append,G6,Xq ys y,G6,Bk]
section
variable {ns:List Int}
theorem Adt {β:Type} {φ:β->W} {D:List β->De} {xs:List β} (h:∀pre x post,xs=pre ++ x::post->∃δ1,s (φ x) (D pre)=some δ1/\PuN P b δ1 (D (pre ++ [x]))):PuN P (Ly s b (xs.map φ)) (D []) (D xs):=by
 have aux:∀post pre,xs=pre ++ post->PuN P (Ly s b (post.map φ)) (D pre) (D xs):=by
  intro post;induction post with
  |nil=>intro pre e;rw[append_nil] at e;subst e;exact Rk
  |cons x post ih=>
   intro pre e;obtain⟨δ1,h1,h2⟩:=h pre x post e;exact Jz h1 h2 (ih (pre ++ [x]) (by rw[e];simp))
 exact aux xs [] rfl
def kSl (w:W) (n:Int) (ks:List Str):De:=[some w,some (.str (M1.Bu 1 n ++ jn (ks.map Gr))),ks.getLast?.map W.str,none]
theorem Awm {n:Int} (hk:∀k∈ks,isKey k=true) (hl:ks.length<=63):PuN P (Ly (Cu 2) (Aj (Bo 1 (Ao .add (Ao .add (Ac 1) (Ae (Bl ns) (Aa (Ae (Dd ns) (Aa (Ac 2) nilF)) (Aa (kF (.int 1)) nilF)))) (Ac 2))) Am) (ks.map W.str)) (kSl w n []) (kSl w n ks):=by
 refine Adt fun pre k post e=>⟨(kSl w n pre).set 2 (some (.str k)),rfl,?_⟩;have hkk:isKey k=true:=hk k (by rw[e];simp)
 have hpre:∀y∈pre.map Gr,y.length<=13:=fun y hy=>by
  obtain⟨k',hk',rfl⟩:=mem_map.mp hy;exact K3 (hk k' (by rw[e];simp[hk']))
 have hj:(jn (pre.map Gr)).length<=63 * 13:=Ab0 hpre (by rw[length_map];rw[e] at hl;simp at hl;omega)
 have hkl:=K3 hkk;unfold Gr at hkl;rw[len_app,Bj] at hkl;have e2:kSl w n (pre ++ [k])=((kSl w n pre).set 2 (some (.str k))).set 1 (some (.str (M1.Bu 1 n ++ jn (pre.map Gr) ++ M1.Bu 1 k.length ++ k))):=by
  unfold kSl;rw[map_append,map_cons,map_nil,Xq,List.getLast?_append];show [_,some (W.str (M1.Bu 1 n ++ (jn (pre.map Gr) ++ Gr k))),_,_]=[_,some (W.str (M1.Bu 1 n ++ jn (pre.map Gr) ++ M1.Bu 1 k.length ++ k)),_,_];unfold Gr;rw[Bk,Bk];rfl
 rw[e2];refine Mf (Bd (An (An (Af rfl) (Ah (Ab (Ah (Ab (Af rfl) Ag) (len_str (U0 hkk))) (Ab Ai Ag)) (Agd (by omega))) (Ca ?_)) (Af rfl) (Ca ?_))) Av
 .rw[len_app,Bj,Bj];exact le_trans (show 1+(jn (pre.map Gr)).length+1<=1+63 * 13+1 by omega) (by decide)
 .rw[len_app,len_app,Bj,Bj];exact le_trans (show 1+(jn (pre.map Gr)).length+1+k.length<=1+63 * 13+13 by omega) (by decide)
theorem Arp {ps:List Int} (h1:Pu P (f δ) (.fix (ps.map W.int))) (hp:∀p∈ps,0<=p) (hl:ps.length<=1000):Pu P (Jc .str Ko (kF (.str "")) (Aa (Df 1 [] f (Cu 0) (fun _=>pure true) (Ae (Bl ns) (Aa (Ac 0) (Aa (kF (.int 2)) nilF)))) nilF) δ) (.str (Ho ps)):=by
 refine U4 (c:=2) ?_ (fun y hy=>?_) (by rw[length_map];exact le_trans (mul_le_mul_right 2 hl) (by decide))
 .have h:=Fz (P:=P) (xs:=ps) (φ:=W.int) (ψ:=fun p=>W.str (M1.Bu 2 p)) (t:=fun _=>pure true) (e:=Ae (Bl ns) (Aa (Ac 0) (Aa (kF (.int 2)) nilF))) (cs:=[]) (cap:=[]) (δ:=δ) h1 rfl (le_trans hl (by decide))
   (fun p hp'=>⟨Pu.pure,Ah (Ab (Af rfl) (Ab Ai Ag)) (Ab1 (hp p hp'))⟩)
  rw[map_map];exact h
 .obtain⟨p,_,rfl⟩:=mem_map.mp hy;exact le_of_eq (Bj 2 p)
theorem Adu {ps:List Int} (h:Pg.ok (.fork ks ps)):Pu P (Hy ns [Pg.w (.fork ks ps)]) (.str (Pg.body (.fork ks ps))):=by
 obtain⟨⟨h1,h2,h3⟩,h4,h5⟩:=h;have hc:∀y∈ks.map Gr,y.length<=13:=fun y hy=>by
  obtain⟨k,hk,rfl⟩:=mem_map.mp hy;exact K3 (h2 k hk)
 have hj:(jn (ks.map Gr)).length<=63 * 13:=Ab0 hc (by rw[length_map];exact h1)
 apply Bq (ws:=[Pg.w (.fork ks ps)]) rfl;apply Bx
 .exact Dz (Al (Ar (Bh (Af rfl) Ai (Bc rfl)) Ai (Bt (by decide +kernel) (by decide +kernel)))) (by decide +kernel) Av
 apply Bx
 .exact Dz (Em (Al (Ar (Bh (Af rfl) Ai (Bc rfl)) Ai (Bt (by decide +kernel) (by decide +kernel)))) (Al (Ar (Bh (Af rfl) Ai (Bc rfl)) Ai (Bt (by decide +kernel) (by decide +kernel))))) (by decide +kernel) Av
 refine Bx (Bd (w:=.str (M1.Bu 1 ks.length)) (Ah (Ab ((Ah (Ab (Bh (Af rfl) Ai (Bc rfl)) Ag) Es).cast (by rw[length_map])) (Ab Ai Ag)) (Agd (by omega)))) ?_
 apply Bp;apply Nk
 .exact Al (Ar (Bh (Af rfl) Ai (Bc rfl)) Ai (Bt (by decide +kernel) (by decide +kernel)))
 .decide +kernel
 have e0:(Bw 4 [Pg.w (.fork ks ps)]).set 1 (some (.str (M1.Bu 1 ks.length)))=kSl (Pg.w (.fork ks ps)) ks.length []:=by
  show [some (Pg.w (.fork ks ps)),some (W.str (M1.Bu 1 ks.length)),none,none]=[_,some (W.str (M1.Bu 1 ks.length ++ jn [])),_,_];rw[Q8,Dh];rfl
 refine Bx (δ1:=kSl (Pg.w (.fork ks ps)) ks.length ks) (Lj (Gp (Bh (Af rfl) Ai (Bc rfl))) ?_) ?_
 .have:=Awm (P:=P) (ns:=ns) (w:=Pg.w (.fork ks ps)) (n:=ks.length) h2 h1;rw[<-e0] at this;exact this
 .apply Bp;apply Bb;refine An (Af rfl) (Arp (Gp (Bh (Af rfl) Ai (Bc rfl))) (fun q hq=>(Eb (h5 q hq) (by decide)).1) (by omega)) (Ca ?_)
  rw[len_app,Bj,Js];exact le_trans (show 1+(jn (ks.map Gr)).length+2 * ps.length<=1+63 * 13+128 by omega) (by decide)
end
section
variable {ns:List Int}
def rSl (w:W) (n:Int) (rs:List (Str×Cl)):De:=[some w,some (.str (M1.Bu 1 n ++ jn (rs.map Jd))),rs.getLast?.map fun r=>W.str r.1,rs.getLast?.map fun r=>r.2.w]
theorem Awn {n:Int} (hr:∀r∈rs,isKey r.1=true/\r.2.ok=true) (hl:rs.length<=63) :
  PuN P (Ly (W9 [2,3]) (Aj (Bo 1 (Ao .add (Ao .add (Ac 1) (Ae (Bl ns) (Aa (Ae (Dd ns) (Aa (Ac 2) nilF)) (Aa (kF (.int 1)) nilF)))) (Ac 2)))
  (Aj (ifS (Ay (Bf .Eq (ixF ns (Ac 3) (kF (.int 0))) (kF (.str "in")))) (Aj (Bo 1 (Ao .add (Ao .add (Ao .add (Ac 1) (kF (.str "i"))) (Ae (Bl ns) (Aa (Ae (Dd ns) (Aa (ixF ns (Ac 3) (kF (.int 1))) nilF)) (Aa (kF (.int 1)) nilF)))) (ixF ns (Ac 3) (kF (.int 1)))))
   Am) (Aj (Bo 1 (Ao .add (Ao .add (Ao .add (Ac 1) (kF (.str "o"))) (Ae (Bl ns) (Aa (ixF ns (Ac 3) (kF (.int 1))) (Aa (kF (.int 2)) nilF)))) (Ae (Bl ns) (Aa (ixF ns (Ac 3) (kF (.int 2))) (Aa (kF (.int 2)) nilF)))))
   Am))
  Am)) (rs.map Ob)) (rSl w n []) (rSl w n rs):=by
 refine Adt fun pre r post e=>⟨((rSl w n pre).set 2 (some (.str r.1))).set 3 (some r.2.w),rfl,?_⟩;obtain⟨k,c⟩:=r;have hkk:isKey k=true:=(hr (k,c) (by rw[e];simp)).1
 have hcc:c.ok=true:=(hr (k,c) (by rw[e];simp)).2
 have hpre:∀y∈pre.map Jd,y.length<=78:=fun y hy=>by
  obtain⟨k',hk',rfl⟩:=mem_map.mp hy;have:=hr k' (by rw[e];simp[hk'])
  exact Z1 this.1 this.2
 have hj:(jn (pre.map Jd)).length<=63 * 78:=Ab0 hpre (by rw[length_map];rw[e] at hl;simp at hl;omega)
 have hkl:=K3 hkk;unfold Gr at hkl;rw[len_app,Bj] at hkl;refine Mf (δ1:=(((rSl w n pre).set 2 (some (.str k))).set 3 (some c.w)).set 1 (some (.str (M1.Bu 1 n ++ jn (pre.map Jd) ++ M1.Bu 1 k.length ++ k)))) (Bd (An (An (Af rfl) (Ah (Ab (Ah (Ab (Af rfl) Ag) (len_str (U0 hkk))) (Ab Ai Ag)) (Agd (by omega))) (Ca ?_)) (Af rfl) (Ca ?_))) ?_
 .rw[len_app,Bj,Bj];exact le_trans (show 1+(jn (pre.map Jd)).length+1<=1+63 * 78+1 by omega) (by decide)
 .rw[len_app,len_app,Bj,Bj];exact le_trans (show 1+(jn (pre.map Jd)).length+1+k.length<=1+63 * 78+13 by omega) (by decide)
 have e2:rSl w n (pre ++ [(k,c)])=((((rSl w n pre).set 2 (some (.str k))).set 3 (some c.w)).set 1 (some (.str (M1.Bu 1 n ++ jn (pre.map Jd) ++ M1.Bu 1 k.length ++ k)))).set 1 (some (.str (M1.Bu 1 n ++ jn (pre.map Jd) ++ M1.Bu 1 k.length ++ k ++ c.t))):=by
  unfold rSl;rw[map_append,map_cons,map_nil,Xq,List.getLast?_append];show [_,some (W.str (M1.Bu 1 n ++ (jn (pre.map Jd) ++ Jd (k,c)))),_,_]=[_,some (W.str (M1.Bu 1 n ++ jn (pre.map Jd) ++ M1.Bu 1 k.length ++ k ++ c.t)),_,_];unfold Jd Gr;rw[Bk,Bk,Bk,Bk];rfl
 rw[e2];have hA:(M1.Bu 1 n ++ jn (pre.map Jd) ++ M1.Bu 1 k.length ++ k).length<=5000:=by
  rw[len_app,len_app,len_app,Bj,Bj];omega
 generalize hgA:M1.Bu 1 n ++ jn (pre.map Jd) ++ M1.Bu 1 k.length ++ k=A at hA ⊢
 refine Mf ?_ Av;cases c with
 |inn t=>
  unfold Cl.ok at hcc;rw[and_eq_true,decide_eq_true_eq] at hcc;refine Be3 (Al (Ar (Bh (Af rfl) Ai (Bc rfl)) Ai (Bt (by decide +kernel) (by decide +kernel)))) (by decide +kernel) ?_
  have ea:A ++ Cl.t (.inn t)=A ++ "i" ++ M1.Bu 1 t.length ++ t:=by
   show A ++ ("i" ++ M1.Bu 1 t.length ++ t)=_;rw[Bk,Bk,Bk]
  rw[ea];refine Mf (Bd (An (An (An (Af rfl) Ai (Ca ?_)) (Ah (Ab (Ah (Ab (Bh (Af rfl) Ai (Bc rfl)) Ag) (len_str (le_trans hcc.2 (by decide)))) (Ab Ai Ag)) (Agd (by omega))) (Ca ?_)) (Bh (Af rfl) Ai (Bc rfl)) (Ca ?_))) Av
  .exact le_trans (add_le_add_right hA _) (by decide)
  .rw[len_app,Bj];exact le_trans (add_le_add_right (add_le_add_right hA _) _) (by decide)
  .rw[len_app,len_app,Bj];exact le_trans (Nat.add_le_add (add_le_add_right (add_le_add_right hA _) _) hcc.2) (by decide)
 |out m p=>
  unfold Cl.ok at hcc;rw[and_eq_true,and_eq_true,decide_eq_true_eq,decide_eq_true_eq] at hcc;refine Dz (Al (Ar (Bh (Af rfl) Ai (Bc rfl)) Ai (Bt (by decide +kernel) (by decide +kernel)))) (by decide +kernel) ?_
  have ea:A ++ Cl.t (.out m p)=A ++ "o" ++ M1.Bu 2 m ++ M1.Bu 2 p:=by
   show A ++ ("o" ++ jn ([m,p].map (M1.Bu 2)))=_;rw[map_cons,map_cons,map_nil,G6,G6,Q8,Dh,Bk,Bk]
  rw[ea];refine Mf (Bd (An (An (An (Af rfl) Ai (Ca ?_)) (Ah (Ab (Bh (Af rfl) Ai (Bc rfl)) (Ab Ai Ag)) (Ab1 (by omega))) (Ca ?_)) (Ah (Ab (Bh (Af rfl) Ai (Bc rfl)) (Ab Ai Ag)) (Ab1 (Eb hcc.2 (by decide)).1)) (Ca ?_))) Av
  .exact le_trans (add_le_add_right hA _) (by decide)
  .rw[len_app,Bj];exact le_trans (add_le_add_right (add_le_add_right hA _) _) (by decide)
  .rw[len_app,len_app,Bj,Bj];exact le_trans (add_le_add_right (add_le_add_right (add_le_add_right hA _) _) _) (by decide)
theorem Z3 {p:Pg} (h:p.ok):Pu P (Hy ns [p.w]) (.str p.body):=by
 cases p with
 |fork ks ps=>exact Adu h
 |head a b c d=>
  obtain⟨h1,h2,h3,h4⟩:=h;apply Bq (ws:=[Pg.w (.head a b c d)]) rfl;apply Bx
  .exact Dz (Al (Ar (Bh (Af rfl) Ai (Bc rfl)) Ai (Bt (by decide +kernel) (by decide +kernel)))) (by decide +kernel) Av
  apply Bp;refine Nk (Em (Al (Ar (Bh (Af rfl) Ai (Bc rfl)) Ai (Bt (by decide +kernel) (by decide +kernel)))) (Al (Ar (Bh (Af rfl) Ai (Bc rfl)) Ai (Bt (by decide +kernel) (by decide +kernel))))) (by decide +kernel) (Bp (Bb ?_))
  exact Arp (ps:=[a,b,c,d]) (Gp (J8 (Af rfl) (Ed Ai) Ej Pu.pure)) (fun q hq=>by
   simp only[mem_cons,not_mem_nil,or_false] at hq;rcases hq with rfl|rfl|rfl|rfl <;> exact(Eb ‹_› (by decide)).1) (show 4<=1000 by decide)
 |free n=>
  apply Bq (ws:=[Pg.w (.free n)]) rfl;apply Bx
  .exact Dz (Al (Ar (Bh (Af rfl) Ai (Bc rfl)) Ai (Bt (by decide +kernel) (by decide +kernel)))) (by decide +kernel) Av
  apply Bp;refine Nk (Em (Al (Ar (Bh (Af rfl) Ai (Bc rfl)) Ai (Bt (by decide +kernel) (by decide +kernel)))) (Al (Ar (Bh (Af rfl) Ai (Bc rfl)) Ai (Bt (by decide +kernel) (by decide +kernel))))) (by decide +kernel) (Bp (Bb ?_))
  exact Arp (ps:=[n]) (Gp (J8 (Af rfl) (Ed Ai) Ej Pu.pure)) (fun q hq=>by
   rw[mem_singleton] at hq;subst hq;exact(Eb h (by decide)).1) (show 1<=1000 by decide)
 |rest t n=>
  obtain⟨h1,h2,h3,h4⟩:=h;apply Bq (ws:=[Pg.w (.rest t n)]) rfl;apply Bp;refine Nk (Al (Ar (Bh (Af rfl) Ai (Bc rfl)) Ai (Bt (by decide +kernel) (by decide +kernel)))) (by decide +kernel) (Bp (Bb ?_))
  have e:Pg.body (.rest t n)=M1.Bu 2 n ++ t:=by
   show jn ([n].map (M1.Bu 2)) ++ t=_;rw[map_cons,map_nil,G6,Q8,Dh]
  rw[e];exact An (Ah (Ab (Bh (Af rfl) Ai (Bc rfl)) (Ab Ai Ag)) (Ab1 (Eb h4 (by decide)).1)) (Bh (Af rfl) Ai (Bc rfl)) (Ca (by
   rw[Bj];exact le_trans (add_le_add_left h3 _) (by decide)))
 |leaf rs=>
  obtain⟨h1,h2,h3⟩:=h;apply Bq (ws:=[Pg.w (.leaf rs)]) rfl;apply Bx
  .exact Dz (Al (Ar (Bh (Af rfl) Ai (Bc rfl)) Ai (Bt (by decide +kernel) (by decide +kernel)))) (by decide +kernel) Av
  apply Bx
  .exact Dz (Em (Al (Ar (Bh (Af rfl) Ai (Bc rfl)) Ai (Bt (by decide +kernel) (by decide +kernel)))) (Al (Ar (Bh (Af rfl) Ai (Bc rfl)) Ai (Bt (by decide +kernel) (by decide +kernel))))) (by decide +kernel) Av
  refine Bx (Bd (w:=.str (M1.Bu 1 rs.length)) (Ah (Ab ((Ah (Ab (Bh (Af rfl) Ai (Bc rfl)) Ag) Es).cast (by rw[length_map])) (Ab Ai Ag)) (Agd (by omega)))) ?_
  apply Bx
  .exact Dz (Al (Ar (Bh (Af rfl) Ai (Bc rfl)) Ai (Bt (by decide +kernel) (by decide +kernel)))) (by decide +kernel) Av
  have e0:(Bw 4 [Pg.w (.leaf rs)]).set 1 (some (.str (M1.Bu 1 rs.length)))=rSl (Pg.w (.leaf rs)) rs.length []:=by
   show [some (Pg.w (.leaf rs)),some (W.str (M1.Bu 1 rs.length)),none,none]=[_,some (W.str (M1.Bu 1 rs.length ++ jn [])),_,_];rw[Q8,Dh];rfl
  refine Bx (δ1:=rSl (Pg.w (.leaf rs)) rs.length rs) (Lj (Gp (Bh (Af rfl) Ai (Bc rfl))) ?_) (Bp (Bb (Af rfl)));have:=Awn (P:=P) (ns:=ns) (w:=Pg.w (.leaf rs)) (n:=rs.length) h2 h1;rw[<-e0] at this;exact this
end
def M9:Str:=" !\"#$?&'()*+,-./0123456789:;<=>?@ABCDEFGHIJKLMNOPQRSTUVWXYZ[\\]^_`abcdefghijklmnopqrstuvwxyz{|}~"
theorem Bb6:∀c,c < 127->M2.okC c=true->c≠63->Txt.find M9 ⟨#[c]⟩=(c:Int) - 32:=by decide +kernel
theorem Awo:Txt.rfind M9 ⟨#[63]⟩=31:=by decide +kernel
def W6 (z:Str) (pre:List Nat):De:=match pre.length with
 |0=>[some (.str z),some (.str M9),some (.int 0),none,none,none]
 |j+1=>[some (.str z),some (.str M9),some (.int (M2.Td z.cps.toList (j+1))),some (.int (0+(j:Int))),some (.str ⟨#[z.cps.toList.getD j 0]⟩),some (.int ((z.cps.toList.getD j 0:Nat) - 32:Int))]
section
variable {ns:List Int}
theorem Arq {n:Nat} {pre post:List Nat} {x:Nat} (e:List.range n=pre ++ x::post):x=pre.length/\x < n:=by
 have h1:(List.range n)[pre.length]?=some x:=by rw[e,getElem?_append_right (le_refl _),sub_self];rfl
 obtain⟨h2,h3⟩:=List.getElem?_eq_some_iff.mp h1;rw[List.getElem_range] at h3;rw[length_range] at h2;exact⟨h3.symm,by omega⟩
theorem Ve {j:Nat} (hz:z.length<=big) (hj:j < z.length):Pu P (ixW ns (.str z) (.int (0+(j:Int)))) (.str ⟨#[z.cps.toList.getD j 0]⟩):=by
 have hl:z.cps.toList.length=z.length:=length_toList;have e:atI z.cps.toList (0+(j:Int))=some (z.cps.toList.getD j 0):=by
  unfold atI ixN;rw[zero_add,if_pos (Int.natCast_nonneg j),if_pos (by rw[hl];omega)]
  show z.cps.toList[((j:Nat):Int).toNat]?=_;rw[toNat_natCast,getElem?_eq_getElem (by omega),getD_eq_getElem?_getD,getElem?_eq_getElem (by omega)]
  rfl
 unfold ixW;dsimp only;rw[e];exact G8 hz Pu.pure
theorem Ab2 (hz:z.length<=big) (ht:M2.Dw z=true):Pu P (Ij ns [.str z]) (.str (M2.check z)):=by
 have hsz:z.cps.toList.length=z.length:=length_toList;apply Bq (ws:=[.str z]) rfl;refine Bx (Bd (w:=.str M9) Ai) ?_;refine Bx (Bd Ai) ?_;refine Bx (δ1:=W6 z (List.range z.length)) (Lj (Ig (k:=z.length) (Ab (Ah (Ab (Af rfl) Ag) (len_str hz)) Ag) hz) ?_) ?_
 .refine Adt (D:=W6 z) fun pre x post e=>?_;obtain⟨hx,hn⟩:=Arq e;have hc:M2.okC (z.cps.toList.getD x 0)=true:=M2.Adh (by unfold M2.Dw at ht;exact ht) (by omega)
  have hc2:=M2.Aj8.mp hc;have e1:∃a b c,W6 z pre=[some (.str z),some (.str M9),some (.int (M2.Td z.cps.toList x)),a,b,c]:=by
   unfold W6;cases hp:pre.length with
   |zero=>rw[hp] at hx;subst hx;exact⟨_,_,_,rfl⟩
   |succ j=>rw[hp] at hx;subst hx;exact⟨_,_,_,rfl⟩
  obtain⟨a,b,c,e1⟩:=e1;rw[e1];refine⟨[some (.str z),some (.str M9),some (.int (M2.Td z.cps.toList x)),some (.int (0+(x:Int))),b,c],rfl,?_⟩;have e3:W6 z (pre ++ [x])=[some (.str z),some (.str M9),some (.int (M2.Td z.cps.toList (x+1))),some (.int (0+(x:Int))),some (.str ⟨#[z.cps.toList.getD x 0]⟩),some (.int ((z.cps.toList.getD x 0:Nat) - 32:Int))]:=by
   unfold W6;have:(pre ++ [x]).length=x+1:=by simp[hx]
   rw[this]
  rw[e3,M2.Vn];generalize hg:z.cps.toList.getD x 0=d at hc hc2;refine Mf (δ1:=[some (.str z),some (.str M9),some (.int (M2.Td z.cps.toList x)),some (.int (0+(x:Int))),some (.str ⟨#[d]⟩),c]) (Bd ((Bh (Af rfl) (Af rfl) (Ve hz hn)).cast (by rw[hg]))) ?_
  refine Mf (δ1:=[some (.str z),some (.str M9),some (.int (M2.Td z.cps.toList x)),some (.int (0+(x:Int))),some (.str ⟨#[d]⟩),some (.int (Txt.find M9 ⟨#[d]⟩))]) (Bd (V3 (Af rfl) (Ab (Af rfl) Ag) Pu.pure)) ?_;refine Mf (δ1:=[some (.str z),some (.str M9),some (.int (M2.Td z.cps.toList x)),some (.int (0+(x:Int))),some (.str ⟨#[d]⟩),some (.int ((d:Nat) - 32:Int))]) ?_ ?_
  .by_cases h63:d=63
   .subst h63;refine Be3 (Al (Ar (Af rfl) Ai (Bt (by decide +kernel) (by decide +kernel)))) (by decide +kernel) (Mf (Bd ((V3 (Af rfl) (Ab (Af rfl) Ag) Pu.pure).cast (by rw[Awo];rfl))) Av)
   .have hd:∀d,d < 127->PyData.strOk (⟨#[d]⟩:Str)=true:=by decide +kernel
    have hne:((⟨#[d]⟩:Str)==("?":Str))=false:=by
     rw[beq_eq_false_iff_ne];intro hh;have:=congrArg (fun s:Str=>s.cps.toList) hh;have h2:[d]=[63]:=this;exact h63 (List.cons.inj h2).1
    refine Dz (Al (Ar (Af rfl) Ai (Bt (hd d (by omega)) (by decide +kernel)))) hne ?_
    rw[Bb6 d (by omega) hc h63]
    exact Av
  .refine Mf (Bd ((An (Af rfl) (An (An (Af rfl) Ai Cr) (An (Af rfl) Ai Cr) (Ie ?_)) Cr).cast ?_)) Av
   .rw[or_eq_true];refine .inr ?_;have h2:small (((x+1:Nat):Nat):Int)=true:=Rr (by unfold big at hz;omega)
    rw[zero_add];exact h2
   .rw[zero_add]
 .have hc:∃a b c,W6 z (List.range z.length)=[some (.str z),some (.str M9),some (.int (M2.chk z.cps.toList)),a,b,c]:=by
   unfold W6 M2.chk;rw[length_range,hsz];cases z.length with
   |zero=>exact⟨_,_,_,rfl⟩
   |succ j=>exact⟨_,_,_,rfl⟩
  obtain⟨a,b,c,hc⟩:=hc;rw[hc];apply Bp;apply Bb;exact Ah (Ab (An (Af rfl) Ai (Cd (by decide))) (Ab Ai Ag)) (Ab1 (by omega))
end
def Bfk:List ((De->M W)×(De->M W)):=[((kF (.str "head")),(kF (.str "h"))),((kF (.str "leaf")),(kF (.str "l"))),((kF (.str "fork")),(kF (.str "f"))),((kF (.str "rest")),(kF (.str "r"))),((kF (.str "free")),(kF (.str "e")))]
def Adv:List (Key×W):=[(.inr "head",.str "h"),(.inr "leaf",.str "l"),(.inr "fork",.str "f"),(.inr "rest",.str "r"),(.inr "free",.str "e")]
theorem Bb7 (p:Pg):Ao4 Adv (.inr p.word)=some (.str p.letter):=by
 cases p <;> rfl
theorem Ab3 {p:Pg} {size:Int} (hb:(p.body.length:Int)<=size - 5):p.start ++ Txt.mul ⟨#[48]⟩ (size - 2 - p.start.length)=p.unch size:=by
 have hs:=V5 p;unfold Pg.unch Txt.ljustF;have e:(Txt.mul ⟨#[48]⟩ (size - 2 - p.start.length)).cps=Array.replicate (size - 2 - p.start.length).toNat 48:=by
  apply Array.ext';rw[mul_one_list,Array.toList_replicate]
 split
 .have:(size - 2 - (p.start.length:Int)).toNat=0:=by omega
  show (⟨p.start.cps ++ (Txt.mul ⟨#[48]⟩ (size - 2 - p.start.length)).cps⟩:Str)=p.start;rw[e,this];simp
 .show (⟨p.start.cps ++ (Txt.mul ⟨#[48]⟩ (size - 2 - p.start.length)).cps⟩:Str)=⟨Array.replicate 0 48 ++ p.start.cps ++ Array.replicate ((size - 2).toNat - p.start.length) 48⟩;rw[e,show (size - 2 - (p.start.length:Int)).toNat=(size - 2).toNat - p.start.length by omega]
  simp
section
variable {ns:List Int}
theorem Bb8 {δ:De} {p:Pg} (h:Pu P (ixF ns (Ac 0) (kF (.int 0)) δ) (.str p.word)):Pu P (ixF ns (Oh Bfk) (ixF ns (Ac 0) (kF (.int 0))) δ) (.str p.letter):=fun S hS=>by
 have e1:Oh Bfk δ S=.ok (.ref S.length) (S ++ [.dct Adv]):=by
  have:J1 [] Adv=Adv:=by kernel_rfl
  show R.ok (W.ref S.length) (S ++ [Cell.dct (J1 [] Adv)])=_;rw[this]
 obtain⟨G,e2⟩:=h (S ++ [.dct Adv]) (P.st _ _ hS);refine⟨[.dct Adv] ++ G,?_⟩;unfold ixF;rw[Br,e1];dsimp only;unfold ixF at e2;rw[Br,e2];dsimp only;have hn:(S ++ [Cell.dct Adv] ++ G)[S.length]?=some (.dct Adv):=by
  rw[getElem?_append_left (by simp),getElem?_append_right (le_refl _),sub_self]
  rfl
 unfold ixW;dsimp only;rw[hn];dsimp only[Aaf];rw[Bb7,append_assoc];rfl
theorem Aij {p:Pg} {size:Int} (h:p.ok) (h1:64<=size) (h2:size<=200) (hb:(p.body.length:Int)<=size - 5):Pu P (Jp ns [p.w,.int size]) (.str (p.text size)):=by
 obtain⟨ws,ew⟩:=Adr p;have hbb:p.body.length<=195:=by omega
 have hs:=V5 p;have hu:(p.unch size).length<=big:=by rw[K4 hb];exact le_trans (show (size - 2).toNat<=200 by omega) (by decide)
 have hw:=Z3 (P:=P) (ns:=ns) h;rw[ew] at hw;rw[ew];apply Bq (ws:=[.tup (.str p.word::ws),.int size]) rfl;refine Bx (Bd (Ah (Ab (Af rfl) Ag) hw)) ?_;refine Bx (Bd (Bb8 (p:=p) (Bh (Af rfl) Ai (Bc ix0)))) ?_;refine Bx (Bd (w:=.str p.start) ?_) ?_
 .refine An (An (Af rfl) (Ah (Ab (Ah (Ab (Af rfl) Ag) (len_str (le_trans hbb (by decide)))) (Ab Ai Ag)) (Ab1 (by omega))) (Ca ?_)) (Af rfl) (Ca ?_)
  .rw[Hu,Bj];decide
  .rw[len_app,Hu,Bj];exact le_trans (add_le_add_left hbb _) (by decide)
 refine Bx (Bd (w:=.str (p.unch size)) ?_) ?_
 .refine Pu.cast (An (Af rfl) (An Ai (An (An (Af rfl) Ai Gn) (Ah (Ab (Af rfl) Ag) (len_str (show p.start.length<=big from by rw[hs];exact le_trans (add_le_add_left hbb 3) (by decide)))) Gn) (G8 (a:=W.str (Txt.mul ⟨#[48]⟩ (size - 2 - p.start.length))) ?_ Pu.pure)) (Ca ?_)) ?_
  .rw[and_eq_true,and_eq_true,decide_eq_true_eq,decide_eq_true_eq,decide_eq_true_eq];refine⟨⟨by decide,?_⟩,?_⟩ <;> omega
  .rw[<-len_app,Ab3 hb];exact hu
  .rw[Ab3 hb]
 apply Bp;apply Bb;exact An (Af rfl) (Ah (Ab (Af rfl) Ag) (Ab2 hu (Xp h size))) (Ca (by
  rw[V6,K4 hb];exact le_trans (show (size - 2).toNat+2<=400 by omega) (by decide)))
end
section
variable {ns:List Int}
def stD (k:Int):Cell:=.dct [(.inr "cells",.scr),(.inr "at",.int k)]
def cellAt (ns:List Int) (k:Int):Int:=if k < ns.length then (atI ns k).getD 0 else 0
def nxt (ns:List Int) (k:Int):Int:=(cellAt ns (k % (if (ns.length:Int) > 1 then (ns.length:Int) else 1)) * 48271+k * k * 69621) % 2147483647 / 8
theorem Ars (ns:List Int) (k:Int):0<=nxt ns k:=by
 unfold nxt;have:0<=(cellAt ns (k % (if (ns.length:Int) > 1 then (ns.length:Int) else 1)) * 48271+k * k * 69621) % 2147483647:=emod_nonneg _ (by decide)
 omega
theorem Am2 {k:Int} (h0:0<=k):Pu P (Ii ns [.scr,.int k]) (.int (cellAt ns k)):=by
 apply Bq (ws:=[.scr,.int k]) rfl;have ht:Pu P (Ay (Bf .Lt (Ac 1) (Ae (Dd ns) (Aa (Ac 0) nilF))) (Bw 2 [.scr,.int k])) (decide (k < ns.length)):=Al (Ar (Af rfl) (Ah (Ab (Af rfl) Ag) Pu.pure) Ul);unfold cellAt;by_cases hk:k < ns.length
 .rw[if_pos hk];apply Bp;refine Nk ht (decide_eq_true hk) (Bp (Bb (Bh (Af rfl) (Af rfl) ?_)));obtain⟨v,hv⟩:∃v,atI ns k=some v:=by
   unfold atI ixN;rw[if_pos h0,if_pos hk];exact⟨ns[k.toNat]'(by omega),getElem?_eq_getElem _⟩
  rw[hv];show Pu P (Aag ((atI ns k).map W.int)) _;rw[hv];exact Pu.pure
 .rw[if_neg hk];exact Bx (Dz ht (decide_eq_false hk) Av) (Bp (Bb Ai))
end
def Xe (P:SP) (n:Nat) (c:Cell):SP:=⟨fun S=>P.p S/\S[n]?=some c,fun S G h=>⟨P.st S G h.1,by rw[getElem?_append_left (List.getElem?_eq_some_iff.mp h.2).1];exact h.2⟩⟩
section
variable {ns:List Int} {n:Nat} {k:Int}
theorem Age (h:δ[0]?=some (some (.ref n))) (hS:S[n]?=some (stD k)):ixF ns (Ac 0) (kF (.str "at")) δ S=.ok (.int k) S:=by
 have hv:Ac 0 δ S=.ok (.ref n) S:=by unfold Ac;rw[h];rfl
 unfold ixF;rw[Br,hv];show ixW ns (.ref n) (.str "at") S=_;unfold ixW;dsimp only;rw[hS];rfl
theorem Bfl (h:δ[0]?=some (some (.ref n))):Pu (Xe P n (stD k)) (ixF ns (Ac 0) (kF (.str "at")) δ) (.int k):=fun S hS=>⟨[],by rw[Age h hS.2,append_nil]⟩
theorem Agf (h:δ[0]?=some (some (.ref n))):Pu (Xe P n (stD k)) (ixF ns (Ac 0) (kF (.str "cells")) δ) .scr:=fun S hS=>⟨[],by
 have hv:Ac 0 δ S=.ok (.ref n) S:=by unfold Ac;rw[h];rfl
 unfold ixF;rw[Br,hv];show ixW ns (.ref n) (.str "cells") S=_;unfold ixW;dsimp only;rw[hS.2,append_nil];rfl⟩
theorem Akf (h:S[n]?=some (stD k)) (h0:0<=k) (h1:k < 1000000):∃G,By ns [.ref n] S=.ok (.int (nxt ns (k+1))) (S.set n (stD (k+1)) ++ G):=by
 have hd:Yp (Ac 0) (kF (.str "at")) (Ao .add (ixF ns (Ac 0) (kF (.str "at"))) (kF (.int 1))) (Bw 3 [.ref n]) S=.nx (Bw 3 [.ref n]) (S.set n (stD (k+1))):=by
  have hb:Ao .add (ixF ns (Ac 0) (kF (.str "at"))) (kF (.int 1)) (Bw 3 [.ref n]) S=.ok (.int (k+1)) S:=by
   unfold Ao;rw[Br,Age rfl h];rfl
  have hs:Aa7 (.ref n) (.str "at") (.int (k+1)) S=.ok () (S.set n (stD (k+1))):=by
   unfold Aa7;dsimp only;rw[h];rfl
  unfold Yp Fg;rw[Br,hb];dsimp only;rw[Br,show Ac 0 (Bw 3 [.ref n]) S=.ok (.ref n) S from rfl];dsimp only;rw[Br,show kF (.str "at") (Bw 3 [.ref n]) S=.ok (.str "at") S from rfl];dsimp only;rw[hs]
 have hr:PuR (Xe SP.any n (stD (k+1))) (Aj (Bo 1 (ixF ns (Ac 0) (kF (.str "at")))) (Aj (Bo 2 (Ae (Ii ns) (Aa (ixF ns (Ac 0) (kF (.str "cells"))) (Aa (Ao .mod (Ac 1) (Ae Ao9 (Aa (kF (.int 1)) (Aa (Ae (Dd ns) (Aa (ixF ns (Ac 0) (kF (.str "cells"))) nilF)) nilF)))) nilF)))) (Aj (retS (Ao .fdiv (Ao .mod (Ao .add (Ao .mul (Ac 2) (kF (.int 48271))) (Ao .mul (Ao .mul (Ac 1) (Ac 1)) (kF (.int 69621)))) (kF (.int 2147483647))) (kF (.int 8)))) Am))) (Bw 3 [.ref n]) (.int (nxt ns (k+1))):=by
  have hsm:small (k+1)=true:=by
   have:=Rr (k:=(k+1).toNat) (by omega)
   rw[toNat_of_nonneg (by omega)] at this
   exact this
  have hpos:0 < (if (ns.length:Int) > 1 then (ns.length:Int) else 1):=by split <;> omega
  refine Bx (Bd (Bfl rfl)) ?_;refine Bx (Bd (Ah (Ab (Agf rfl) (Ab (An (Af rfl) (Ah (Ab Ai (Ab (Ah (Ab (Agf rfl) Ag) Pu.pure) Ag)) Pu.pure) (Cd hpos)) Ag)) (Am2 (emod_nonneg _ (by omega))))) ?_
  refine Bp (Bb ?_);refine Pu.cast (An (An (An (An (Af rfl) Ai (Ie (by rw[show small 48271=true by decide +kernel,Bool.or_true]))) (An (An (Af rfl) (Af rfl) (Ie (by rw[hsm];rfl))) Ai (Ie (by rw[show small 69621=true by decide +kernel,Bool.or_true]))) Cr) Ai (Cd (j:=2147483647) (by decide))) Ai (Dm (j:=8) (by decide) (by decide))) ?_
  unfold nxt;rfl
 obtain⟨G,e⟩:=hr (S.set n (stD (k+1))) ⟨trivial,by rw[getElem?_set_self (List.getElem?_eq_some_iff.mp h).1]⟩
 refine⟨G,?_⟩;unfold By Ck Pn;rw[if_pos (show [W.ref n].length=1 from rfl)];unfold Aj at e ⊢
 rw[hd];dsimp only;rw[e]
end
def Oc:Str:=(" !\"#$&'()*+,-./:;<=>?\x40[\\]^_`{|}~":Str) ++ ("0123456789abcdefghijklmnopqrstuvwxyzABCDEFGHIJKLMNOPQRSTUVWXYZ":Str)
theorem Iw:Oc.length=94:=by decide +kernel
theorem Awp:M2.Dw Oc=true:=by decide +kernel
def sgnN (i:Int):Nat:=Oc.cps.toList.getD i.toNat 0
def ltN (n:Int) (k:Nat):Int:=(n / 7+13 * (0+(k:Int)) * (0+(k:Int))+5 * (0+(k:Int))) % 94
def lawT (n:Int) (size:Nat):Str:=jn ((List.range size).map fun k=>(⟨#[sgnN (ltN n k)]⟩:Str))
theorem Adw {i:Int} (h0:0<=i) (h:i < 94):M2.okC (sgnN i)=true:=M2.Adh (l:=Oc.cps.toList) Awp (by rw[length_toList];show i.toNat < Oc.length;rw[Iw];omega)
theorem Ab4 (n:Int) (k:Nat):0<=ltN n k/\ltN n k < 94:=by unfold ltN;omega
theorem Adx (n:Int) (size:Nat):M2.Dw (lawT n size)=true:=Agc fun y hy=>by
 obtain⟨k,_,rfl⟩:=mem_map.mp hy;have:=Ab4 n k;exact(Adq _).trans (Adw this.1 this.2)
theorem Q9 (n:Int) (size:Nat):(lawT n size).length=size:=by
 unfold lawT;rw[V4,map_map];have:∀l:List Nat,(l.map ((fun x:Str=>x.length) ∘ fun k=>(⟨#[sgnN (ltN n k)]⟩:Str))).sum=l.length:=by
  intro l;induction l with
  |nil=>rfl
  |cons a l ih=>
   rw[map_cons,sum_cons,ih,length_cons];show 1+_=_;omega
 rw[this,length_range]
section
variable {ns:List Int}
theorem Z4:Pu P (Gz ns []) (.str Oc):=by
 apply Bq (ws:=[]) rfl;refine Bx (Bd Ai) (Bp (Bb ?_));exact An Ai (Af rfl) (Ca (by decide +kernel))
theorem Aik {i:Int} (h0:0<=i) (h:i < 94):Pu P (ixW ns (.str Oc) (.int i)) (.str ⟨#[sgnN i]⟩):=by
 have:=Ve (P:=P) (ns:=ns) (z:=Oc) (j:=i.toNat) (by rw[Iw];decide) (by rw[Iw];omega)
 rw[zero_add,toNat_of_nonneg h0] at this;exact this
theorem Ab5 {i:Int} (h0:0<=i) (h1:i<=1000000):small i=true:=by
 have:=Rr (k:=i.toNat) (by omega)
 rw[toNat_of_nonneg h0] at this;exact this
theorem Ady {n:Int} {size:Nat} (hs:size<=1000):Pu P (J0 ns [.int n,.int (size:Int)]) (.str (lawT n size)):=by
 apply Bq (ws:=[.int n,.int (size:Int)]) rfl;refine Bx (Bd (Ah Ag Z4)) ?_;refine Bx (Bd (w:=.int 94) ((Ah (Ab (Af rfl) Ag) (len_str (by rw[Iw];decide))).cast (by rw[Iw];rfl))) ?_
 refine Bp (Bb ?_);refine U4 (c:=1) ?_ (fun y hy=>?_) (by rw[length_map,length_range];exact le_trans (mul_le_mul_right 1 hs) (by decide))
 .have h:=Fz (P:=P) (xs:=List.range size) (φ:=fun(k:Nat)=>W.int ((0:Int)+(k:Int))) (ψ:=fun k=>W.str ⟨#[sgnN (ltN n k)]⟩) (t:=fun _=>pure true) (e:=ixF ns (Ac 3) (Ao .mod (Ao .add (Ao .add (Ao .fdiv (Ac 2) (kF (.int 7))) (Ao .mul (Ao .mul (kF (.int 13)) (Ac 0)) (Ac 0))) (Ao .mul (kF (.int 5)) (Ac 0))) (Ac 1))) (cs:=[some (.int 94),some (.int n),some (.str Oc)]) (cap:=[3,0,2]) (δ:=((Bw 4 [.int n,.int (size:Int)]).set 2 (some (.str Oc))).set 3 (some (.int 94))) (src:=Om Hw (Aa (Ac 1) nilF))
   (Ig (Ab (Af rfl) Ag) (le_trans hs (by decide))) rfl (by rw[length_range];exact le_trans hs (by decide)) (fun k hk=>by
    have hk:k < size:=mem_range.mp hk;have hr:=Ab4 n k;have hsm:small (0+(k:Int))=true:=Ab5 (by omega) (by omega)
    exact⟨Pu.pure,Bh (Af rfl) (An (An (An (An (Af rfl) Ai (Dm (j:=7) (by decide) (by decide))) (An (An Ai (Af rfl) (Ie (by rw[hsm,Bool.or_true]))) (Af rfl) (Ie (by rw[hsm,Bool.or_true]))) Cr) (An Ai (Af rfl) (Ie (by rw[hsm,Bool.or_true]))) Cr) (Af rfl) (Cd (j:=94) (by decide))) (Aik hr.1 hr.2)⟩)
  rw[map_map];exact h
 .obtain⟨k,_,rfl⟩:=mem_map.mp hy;exact le_refl 1
end
def Sf {α:Type} (n:Nat) (d:Nat) (m:M α) (Q:α->Prop):Prop:=∀(k:Int) (S:Store),0<=k->k+d<=900000->S[n]?=some (stD k)->∃(a:α) (k':Int) (G:Store),m S=.ok a (S.set n (stD k') ++ G)/\k<=k'/\k'<=k+d/\Q a
section
variable {α β:Type} {n d d1 d2:Nat} {m:M α} {f:α->M β} {Q:α->Prop} {R':β->Prop} {ns:List Int}
theorem Akg {S G:Store} {c c':Cell} (h:n < S.length):(S.set n c ++ G).set n c'=S.set n c' ++ G:=by
 rw[List.set_append_left _ _ (by rw[length_set];exact h),List.set_set]
theorem Sf.bind (h1:Sf n d1 m Q) (h2:∀a,Q a->Sf n d2 (f a) R'):Sf n (d1+d2) (m >>= f) R':=fun k S h0 hd hS=>by
 have hl:n < S.length:=(List.getElem?_eq_some_iff.mp hS).1;obtain⟨a,k1,G1,e1,q1,q2,qa⟩:=h1 k S h0 (by omega) hS
 have hS1:(S.set n (stD k1) ++ G1)[n]?=some (stD k1):=by
  rw[getElem?_append_left (by rw[length_set];exact hl),getElem?_set_self hl]
 obtain⟨b,k2,G2,e2,r1,r2,rb⟩:=h2 a qa k1 (S.set n (stD k1) ++ G1) (by omega) (by omega) hS1
 refine⟨b,k2,G1 ++ G2,?_,by omega,by omega,rb⟩
 rw[Br,e1];dsimp only;rw[e2,Akg hl,append_assoc]
theorem Sf.of_pu {a:α} (h:Pu SP.any m a) (q:Q a):Sf n 0 m Q:=fun k S _ _ hS=>by
 obtain⟨G,e⟩:=h S trivial;refine⟨a,k,G,?_,Int.le_refl _,by omega,q⟩
 have:S.set n (stD k)=S:=by
  have hl:n < S.length:=(List.getElem?_eq_some_iff.mp hS).1;apply List.ext_getElem?;intro i;by_cases hi:i=n
  .subst hi;rw[getElem?_set_self hl,hS]
  .rw[getElem?_set_ne (Ne.symm hi)]
 rw[e,this]
theorem Sf.mono {Q':α->Prop} (h:Sf n d1 m Q) (hd:d1<=d2) (hq:∀a,Q a->Q' a):Sf n d2 m Q':=fun k S h0 hk hS=>by
 obtain⟨a,k1,G,e,q1,q2,qa⟩:=h k S h0 (by omega) hS
 exact⟨a,k1,G,e,q1,by omega,hq a qa⟩
theorem Awq:Sf n 1 (By ns [.ref n]) (fun w=>∃i,w=.int i/\0<=i):=fun k S h0 hk hS=>by
 obtain⟨G,e⟩:=Akf (ns:=ns) hS h0 (by omega)
 exact⟨_,k+1,G,e,by omega,by omega,_,rfl,Ars ns (k+1)⟩
end
inductive En where
 |nx (δ:De)
 |rt (w:W)
def SfS (n d:Nat) (b:MS) (δ:De) (Q:En->Prop):Prop:=∀(k:Int) (S:Store),0<=k->k+d<=900000->S[n]?=some (stD k)->∃(x:En) (k':Int) (G:Store),b δ S=(match x with|.nx δ'=>.nx δ' (S.set n (stD k') ++ G)|.rt w=>.rt w (S.set n (stD k') ++ G))/\k<=k'/\k'<=k+d/\Q x
section
variable {n d d1 d2:Nat} {i kk nn:Nat}
theorem Awr (h:Sf n d (f δ) R') (q:∀w,R' w->Q (.nx (δ.set i (some w)))):SfS n d (Bo i f) δ Q:=fun k S h0 hd hS=>by
 obtain⟨a,k1,G,e,q1,q2,qa⟩:=h k S h0 hd hS;exact⟨.nx (δ.set i (some a)),k1,G,by unfold Bo Fg;rw[e],q1,q2,q a qa⟩
theorem Akh (h:Sf n d (f δ) R') (q:∀w,R' w->Q (.rt w)):SfS n d (retS f) δ Q:=fun k S h0 hd hS=>by
 obtain⟨a,k1,G,e,q1,q2,qa⟩:=h k S h0 hd hS;exact⟨.rt a,k1,G,by unfold retS Fg;rw[e],q1,q2,q a qa⟩
theorem Xr (h1:SfS n d1 b δ Q') (h2:∀δ',Q' (.nx δ')->SfS n d2 b' δ' Q) (h3:∀w,Q' (.rt w)->Q (.rt w)):SfS n (d1+d2) (Aj b b') δ Q:=fun k S h0 hd hS=>by
 have hl:n < S.length:=(List.getElem?_eq_some_iff.mp hS).1;obtain⟨x,k1,G1,e1,q1,q2,qa⟩:=h1 k S h0 (by omega) hS
 cases x with
 |rt w=>exact⟨.rt w,k1,G1,by unfold Aj;rw[e1],q1,by omega,h3 w qa⟩
 |nx δ1=>
  have hS1:(S.set n (stD k1) ++ G1)[n]?=some (stD k1):=by
   rw[getElem?_append_left (by rw[length_set];exact hl),getElem?_set_self hl]
  obtain⟨y,k2,G2,e2,r1,r2,rb⟩:=h2 δ1 qa k1 (S.set n (stD k1) ++ G1) (by omega) (by omega) hS1
  refine⟨y,k2,G1 ++ G2,?_,by omega,by omega,rb⟩
  unfold Aj;rw[e1];dsimp only;rw[e2];cases y <;> simp only[Akg hl,append_assoc]
theorem Bb9 (hl:ws.length=kk) (h:SfS n d b (Bw nn ws) (fun x=>∃w,x=.rt w/\R' w)):Sf n d (Ck kk nn b ws) R':=fun k S h0 hd hS=>by
 obtain⟨x,k1,G,e,q1,q2,w,rfl,qw⟩:=h k S h0 hd hS;exact⟨w,k1,G,by unfold Ck;rw[if_pos hl,e],q1,q2,qw⟩
end
section
variable {ns:List Int}
theorem V7 {i:Int} (h1:Pu P (gs δ) ws) (hl:ws.length<=big) (h2:Pu P (g δ) (.int i)) (hi:atI ws i=some w):Pu P (ixF ns (Oj gs) g δ) w:=fun S hS=>by
 obtain⟨G,n,e,hn,_⟩:=Av2 h1 hl S hS;obtain⟨G2,e2⟩:=h2 (S ++ G) (P.st _ _ hS);refine⟨G ++ G2,?_⟩;unfold ixF;rw[Br,e];dsimp only;rw[Br,e2];dsimp only;have hn2:(S ++ G ++ G2)[n]?=some (.lst ws):=by rw[getElem?_append_left (List.getElem?_eq_some_iff.mp hn).1];exact hn
 unfold ixW;dsimp only;rw[hn2];dsimp only;rw[hi,append_assoc];rfl
variable {n d:Nat}
theorem Art (q:Q (.nx δ)):SfS n 0 Am δ Q:=fun k S _ _ hS=>by
 obtain⟨a,k1,G,e,q1,q2,_⟩:=Sf.of_pu (n:=n) (m:=(pure ():M Unit)) (a:=()) (Q:=fun _=>True) Pu.pure trivial k S ‹_› (by omega) hS
 have e:R.ok () S=R.ok a (S.set n (stD k1) ++ G):=e;have e2:S=S.set n (stD k1) ++ G:=by injection e
 exact⟨.nx δ,k1,G,by show RS.nx δ S=RS.nx δ _;rw[<-e2],q1,by omega,q⟩
theorem Bca (h1:Pu SP.any (t δ) p) (h2:p=true->SfS n d b δ Q) (h3:p=false->SfS n d b' δ Q):SfS n d (ifS t b b') δ Q:=fun k S h0 hd hS=>by
 have hl:n < S.length:=(List.getElem?_eq_some_iff.mp hS).1;obtain⟨G,e⟩:=h1 S trivial;have hS1:(S ++ G)[n]?=some (stD k):=by rw[getElem?_append_left hl];exact hS
 have fin:∀{c:MS},SfS n d c δ Q->ifS t b b' δ S=c δ (S ++ G)->∃(x:En) (k':Int) (G:Store),ifS t b b' δ S=(match x with|.nx δ'=>.nx δ' (S.set n (stD k') ++ G)|.rt w=>.rt w (S.set n (stD k') ++ G))/\k<=k'/\k'<=k+d/\Q x:=fun {c} hc ec=>by
  obtain⟨x,k1,G2,e1,q1,q2,qx⟩:=hc k (S ++ G) h0 hd hS1;refine⟨x,k1,G ++ G2,?_,q1,q2,qx⟩;rw[ec,e1];cases x <;> simp only[List.set_append_left _ _ hl,append_assoc]
 cases p with
 |true=>exact fin (h2 rfl) (by unfold ifS Fg;rw[e];rfl)
 |false=>exact fin (h3 rfl) (by unfold ifS Fg;rw[e];rfl)
theorem Aws (h1:Pu SP.any (gs δ) ws) (h2:Sf n d (s ws) R'):Sf n d (Ae s gs δ) R':=
 (Sf.bind (Sf.of_pu (Q:=fun a=>a=ws) h1 rfl) (fun a e=>by subst e;exact h2)).mono (by omega) fun _ q=>q
theorem Bha {size:Int} (h1:64<=size) (h2:size<=200):8<=size / 8/\size / 8<=25:=by omega
theorem Awt {size:Int} (h1:64<=size) (h2:size<=200):Sf n 1 (Lk ns [.ref n,.int size]) (fun w=>∃c:Cl,c.ok=true/\w=c.w):=by
 apply Bb9 (ws:=[.ref n,.int size]) rfl;refine Xr (d1:=1) (d2:=0) (Q':=fun x=>∃i,x=.nx ((Bw 3 [.ref n,.int size]).set 2 (some (.int i)))/\0<=i) (Awr (Aws (Ab (Af rfl) Ag) Awq) (fun w ⟨i,e,hi⟩=>⟨i,by rw[e],hi⟩)) (fun δ' ⟨i,e,hi⟩=>?_) (fun w ⟨i,e,hi⟩=>by cases e)
 have e:δ'=[some (.ref n),some (.int size),some (.int i)]:=by injection e
 subst e;have ht:Pu SP.any (Ay (Bf .Eq (Ao .mod (Ac 2) (kF (.int 3))) (kF (.int 0))) [some (.ref n),some (.int size),some (.int i)]) (i % 3==0):=Al (Ar (An (Af rfl) Ai (Cd (j:=3) (by decide))) Ai Ih)
 refine Xr (d1:=0) (d2:=0) (Q':=fun x=>(∃w,x=.rt w/\∃c:Cl,c.ok=true/\w=c.w)\/x=.nx [some (.ref n),some (.int size),some (.int i)]) (Bca ht (fun _=>?_) (fun _=>Art (.inr rfl))) (fun δ' h=>?_) (fun w h=>?_)
 .refine Xr (d1:=0) (d2:=0) (Q':=fun x=>∃w,x=.rt w/\∃c:Cl,c.ok=true/\w=c.w) (Akh (R':=fun w=>∃c:Cl,c.ok=true/\w=c.w) (Sf.of_pu (a:=Cl.w (.out (1+i / 3 % 400) (1+i / 1200 % 4095))) ?_ ⟨_,?_,rfl⟩) (fun w h=>⟨w,rfl,h⟩)) (fun δ' h=>by obtain⟨w,e,_⟩:=h;cases e) (fun w h=>.inl h)
  .exact Tc (Ab Ai (Ab (An Ai (An (An (Af rfl) Ai (Dm (j:=3) (by decide) (by decide))) Ai (Cd (j:=400) (by decide))) Cr) (Ab (An Ai (An (An (Af rfl) Ai (Dm (j:=1200) (by decide) (by decide))) Ai (Cd (j:=4095) (by decide))) Cr) Ag))) (by show 3<=big;decide)
  .unfold Cl.ok Gq;simp only[and_eq_true,decide_eq_true_eq];omega
 .rcases h with ⟨w,e,_⟩|e
  .cases e
  have e:δ'=[some (.ref n),some (.int size),some (.int i)]:=by injection e
  subst e;have d8:=Bha h1 h2;have hm:0<=i / 30 % (size / 8+1)/\i / 30 % (size / 8+1) < size / 8+1:=⟨emod_nonneg _ (by omega),emod_lt_of_pos _ (by omega)⟩
  obtain⟨L,hL,hL1,hL2⟩:∃L:Int,atI [W.int 0,.int 1,.int (size / 8),.int (i / 30 % (size / 8+1))] (i / 3 % 4)=some (.int L)/\0<=L/\L<=25:=by
   have h4:i / 3 % 4=0\/i / 3 % 4=1\/i / 3 % 4=2\/i / 3 % 4=3:=by omega
   rcases h4 with h|h|h|h <;> rw[h]
   .exact⟨0,rfl,by omega,by omega⟩
   .exact⟨1,rfl,by omega,by omega⟩
   .exact⟨_,rfl,by omega,by omega⟩
   .exact⟨_,rfl,by omega,by omega⟩
  refine Xr (d1:=0) (d2:=0) (Q':=fun x=>∃w,x=.rt w/\∃c:Cl,c.ok=true/\w=c.w) (Akh (R':=fun w=>∃c:Cl,c.ok=true/\w=c.w) (Sf.of_pu (a:=Cl.w (.inn (lawT i L.toNat))) ?_ ⟨_,?_,rfl⟩) (fun w h=>⟨w,rfl,h⟩)) (fun δ' h=>by obtain⟨w,e,_⟩:=h;cases e) (fun w h=>h)
  .have hT:=Ady (P:=SP.any) (ns:=ns) (n:=i) (size:=L.toNat) (by omega)
   rw[toNat_of_nonneg hL1] at hT;exact Tc (Ab Ai (Ab (Ah (Ab (Af rfl) (Ab (V7 (Ab Ai (Ab Ai (Ab (An (Af rfl) Ai (Dm (j:=8) (by decide) (by decide))) (Ab (An (An (Af rfl) Ai (Dm (j:=30) (by decide) (by decide))) (An (An (Af rfl) Ai (Dm (j:=8) (by decide) (by decide))) Ai Cr) (Cd (j:=size / 8+1) (by omega))) Ag)))) (by show 4<=big;decide) (An (An (Af rfl) Ai (Dm (j:=3) (by decide) (by decide))) Ai (Cd (j:=4) (by decide))) hL) Ag)) hT) Ag)) (by show 2<=big;decide)
  .show (M2.Dw (lawT i L.toNat)&&decide ((lawT i L.toNat).length<=63))=true;rw[Adx,Q9,Bool.true_and,decide_eq_true_eq];omega
 .rcases h with h|e
  .exact h
  .cases e
end
def cut (z:Str) (i j:Nat):Str:=⟨((z.cps.toList.drop i).take (j - i)).toArray⟩
theorem V8 {i j:Nat} (h1:i<=j) (h2:j<=z.length):Txt.slice z (some (i:Int)) (some (j:Int))=cut z i j:=by
 have q:=eq_of_beq (PyProof.Rows.slice_closesL (x:=z) (i:=(i:Int)) (j:=(j:Int)) (by omega) (by omega) (by omega))
 rw[q];unfold cut;rw[show ((j:Int) - (i:Int)).toNat=j - i by omega,toNat_natCast]
theorem Z5 {j:Nat} (h2:j<=z.length):Txt.slice z none (some (j:Int))=cut z 0 j:=by
 have q:=eq_of_beq (PyProof.Rows.slice_closes_toL (x:=z) (j:=(j:Int)) (by omega) (by omega))
 rw[q];unfold cut;rw[show ((j:Int) - 0).toNat=j - 0 by omega]
 rfl
theorem Lx {i j:Nat} (h1:i<=j) (h2:j<=z.length):(cut z i j).length=j - i:=by
 have hz:z.cps.toList.length=z.length:=length_toList;unfold cut;show ((z.cps.toList.drop i).take (j - i)).toArray.size=j - i;rw[size_toArray,length_take,length_drop];omega
theorem V9 {i j:Nat} (h:M2.Dw z=true):M2.Dw (cut z i j)=true:=by
 unfold M2.Dw at h ⊢
 rw[all_eq_true] at h ⊢
 intro c hc;have hc:c∈((z.cps.toList.drop i).take (j - i)).toArray.toList:=hc;rw[List.toList_toArray] at hc;exact h c (List.mem_of_mem_drop (List.mem_of_mem_take hc))
def dk (keys:List Str):List (Key×W):=keys.map fun z=>(.inr z,.bl true)
theorem Bcb (keys:List Str) (z:Str):∃keys',R0 (dk keys) (.inr z) (.bl true)=dk keys'/\keys'.length<=keys.length+1/\(keys.Nodup->keys'.Nodup)/\∀y∈keys',y∈keys\/y=z:=by
 by_cases hz:z∈keys
 .refine⟨keys,?_,le_succ _,fun h=>h,fun y hy=>.inl hy⟩;unfold R0;have ha:((dk keys).any fun p=>decide (p.1=(Sum.inr z:Key)))=true:=List.any_eq_true.mpr ⟨((Sum.inr z:Key),W.bl true),mem_map.mpr ⟨z,hz,rfl⟩,decide_eq_true rfl⟩;rw[if_pos ha];unfold dk;rw[map_map];refine List.map_congr_left fun y _=>?_;show (if (Sum.inr y:Key)=.inr z then ((Sum.inr y:Key),W.bl true) else (.inr y,.bl true))=_
  split <;> rfl
 .refine⟨keys ++ [z],?_,by rw[length_append];exact le_refl _,fun h=>?_,fun y hy=>?_⟩
  .unfold R0;rw[if_neg]
   .unfold dk;rw[map_append];rfl
   .intro h;obtain⟨p,hp,e⟩:=List.any_eq_true.mp h;obtain⟨y,hy,rfl⟩:=mem_map.mp hp;have e:(Sum.inr y:Key)=.inr z:=of_decide_eq_true e;exact hz (Sum.inr.inj e ▸ hy)
  .rw[nodup_append];refine⟨h,nodup_cons.mpr ⟨(fun z=>nomatch z),.nil⟩,fun a ha b hb e=>?_⟩;rw[mem_singleton.mp hb] at e;exact hz (e ▸ ha)
  .rcases mem_append.mp hy with h|h
   .exact .inl h
   .exact .inr (mem_singleton.mp h)
theorem Aki:∀keys:List Str,Ex Vg (dk keys)=some keys
 |[]=>rfl
 |z::keys=>by
  have:=Aki keys;unfold dk at this ⊢
  rw[map_cons,Ex,this];rfl
abbrev Wa (ks:List Str):Prop:=ks.Pairwise fun a b=>J4 a b=true
theorem Z6:∀{ks:List Str},Wa ks->Sh ks=true
 |[],_=>rfl
 |[a],_=>rfl
 |a::b::ks,h=>by
  have h:=pairwise_cons.mp h;have ih:=Z6 h.2;unfold Sh at ih ⊢
  show (J4 a b&&((b::ks).zip ((b::ks).drop 1)).all fun p=>J4 p.1 p.2)=true;rw[ih,h.1 b (mem_cons_self),Bool.and_self]
theorem Am3 (h:leS a b=true) (ne:a≠b):J4 a b=true:=by
 cases hc:J4 a b with
 |true=>rfl
 |false=>
  have h2:leS b a=true:=by
   unfold leS;unfold J4 at hc;rw[hc];rfl
  exact absurd (Aej a b h h2) ne
theorem Aap (h:ks.Nodup):Wa (Yg ks):=by
 have h1:=Wh ks;have h2:(Yg ks).Nodup:=(Mt ks).nodup_iff.mpr h;exact(h1.and h2).imp fun⟨a,b⟩=>Am3 a b
section
variable {ns:List Int} {n d:Nat} {k:Int}
theorem Awu (h:S[n]?=some (stD k)) (h0:0<=k) (h1:k < 900000) (q:∀i S',Fr [n] S S'->S'[n]?=some (stD (k+1))->0<=i->Q (.int i) S'):Wm (By ns [.ref n]) S Q:=by
 obtain⟨G,e⟩:=Akf (ns:=ns) h h0 (by omega)
 exact⟨_,_,e,q _ _ (Fr.set.then0 Fr.app) (Fr.app.at0 (Pb (Ek h))) (Ars ns (k+1))⟩
theorem Hq {i:Nat} (hv:δ[i]?=some (some (.ref n))) (h:S[n]?=some (stD k)) (h0:0<=k) (h1:k < 900000) (q:∀i S',Fr [n] S S'->S'[n]?=some (stD (k+1))->0<=i->Q (.int i) S'):Wm (Ae (By ns) (Aa (Ac i) nilF) δ) S Q:=
 Ey (Az (Ez hv (Do (Awu h h0 h1 q))))
theorem Bfm {α:Type} {m:M α} {Q':α->Prop} {R:α->Store->Prop} (hm:Sf n d m Q') (h:S[n]?=some (stD k)) (h0:0<=k) (h1:k+d<=900000) (q:∀a k' S',Fr [n] S S'->S'[n]?=some (stD k')->k<=k'->k'<=k+d->Q' a->R a S'):Wm m S R:=by
 obtain⟨a,k',G,e,q1,q2,qa⟩:=hm k S h0 h1 h;exact⟨a,_,e,q a k' _ (Fr.set.then0 Fr.app) (Fr.app.at0 (Pb (Ek h))) q1 q2 qa⟩
theorem Agg (q:Q (.ref S.length) (S ++ [.dct []])):Wm (Oh [] δ) S Q:=⟨.ref S.length,S ++ [.dct []],rfl,q⟩
def Ail (base:Str) (at' size:Nat) (c:Nat):Str:=cut base 0 at' ++ ⟨#[c]⟩ ++ cut base (at'+1) size
theorem Awv {a L c:Nat} (hb:base.length=12) (ht:M2.Dw base=true) (ha:a < L) (hL:L<=12) (hc:M2.okC c=true):isKey (Ail base a L c)=true:=by
 have l1:(cut base 0 a).length=a:=by rw[Lx (by omega) (by omega)];omega
 have l2:(cut base (a+1) L).length=L - (a+1):=Lx (by omega) (by omega)
 have l3:(Ail base a L c).length=L:=by
  unfold Ail;rw[len_app,len_app,l1,l2];show a+1+(L - (a+1))=L;omega
 unfold isKey;rw[l3];unfold Ail;rw[Fy,Fy,V9 ht,V9 ht,show M2.Dw (⟨#[c]⟩:Str)=true from (Adq c).trans hc];simp only[Bool.and_self,Bool.true_and,and_eq_true,decide_eq_true_eq];omega
theorem Aww {a L c:Nat} (hb:base.length=12) (ha:a < L) (hL:L<=12) (h1:Pu P (f1 δ) (.str base)) (h2:Pu P (f2 δ) (.int (a:Int))) (h3:Pu P (f3 δ) (.str ⟨#[c]⟩)) (h4:Pu P (f4 δ) (.int (L:Int))) :
  Pu P (Ao .add (Ao .add (slF ns f1 Bs (Cg f2)) f3) (slF ns f1 (Cg (Ao .add f2 (kF (.int 1)))) (Cg f4)) δ) (.str (Ail base a L c)):=by
 have l1:(cut base 0 a).length=a:=by rw[Lx (by omega) (by omega)];omega
 have l2:(cut base (a+1) L).length=L - (a+1):=Lx (by omega) (by omega)
 have s1:Pu P (slF ns f1 Bs (Cg f2) δ) (.str (cut base 0 a)):=by
  refine J8 h1 Ej (Ed h2) ?_;show Pu P (if base.length<=big then pure (W.str (Txt.slice base none (some (a:Int)))) else bad) _
  rw[Z5 (by omega)]
  exact G8 (by rw[hb];decide) Pu.pure
 have s2:Pu P (slF ns f1 (Cg (Ao .add f2 (kF (.int 1)))) (Cg f4) δ) (.str (cut base (a+1) L)):=by
  refine J8 h1 (Ed (An h2 Ai Cr)) (Ed h4) ?_;show Pu P (if base.length<=big then pure (W.str (Txt.slice base (some ((a:Int)+1)) (some (L:Int)))) else bad) _
  rw[show ((a:Int)+1)=((a+1:Nat):Int) by omega,V8 (by omega) (by omega)]
  exact G8 (by rw[hb];decide) Pu.pure
 refine An (An s1 h3 (Ca ?_)) s2 (Ca ?_)
 .rw[l1];show a+1<=big;unfold big;omega
 .rw[len_app,l1,l2];show a+1+(L - (a+1))<=big;unfold big;omega
theorem Am4 {d:Nat} (hd:S[d]?=some (.dct (dk keys))) (hl:keys.length < 64) (q:Q (.ref S.length) (S ++ [.lst ((Yg keys).map W.str)])):Wm (Rg [.ref d]) S Q:=⟨_,_,by
 unfold Rg;dsimp only;rw[hd];dsimp only;rw[if_pos (by unfold dk;rw[length_map];exact hl),Aki]
 dsimp only;unfold Ce;rw[if_pos (by rw[length_map,(Mt keys).length_eq];unfold big;omega)],q⟩
theorem Am5 (i:Int) (hi:0<=i):∃L:Nat,atI [W.int 1,.int 12,.int (1+i / 5 % 12),.int 3,.int (2+i / 5 % 3)] (i % 5)=some (.int (L:Int))/\1<=L/\L<=12:=by
 have h5:i % 5=0\/i % 5=1\/i % 5=2\/i % 5=3\/i % 5=4:=by omega
 rcases h5 with h|h|h|h|h <;> rw[h]
 .exact⟨1,rfl,by omega,by omega⟩
 .exact⟨12,rfl,by omega,by omega⟩
 .refine⟨(1+i / 5 % 12).toNat,?_,by omega,by omega⟩
  rw[toNat_of_nonneg (by omega)];rfl
 .exact⟨3,rfl,by omega,by omega⟩
 .refine⟨(2+i / 5 % 3).toNat,?_,by omega,by omega⟩
  rw[toNat_of_nonneg (by omega)];rfl
theorem Am6 {many:Nat} (hm:many<=13) (h:S[n]?=some (stD k)) (h0:0<=k) (h1:k+20<=900000)
  (q:∀r keys k' S',Fr [n] S S'->S'[n]?=some (stD k')->k<=k'->k'<=k+14->S'[r]?=some (.lst (keys.map W.str))->S.length<=r->keys.length<=13->(∀z∈keys,isKey z=true)->Wa keys->Q (.ref r) S') :
  Wm (Mh ns [.ref n,.int (many:Int)]) S Q:=by
 refine Ks rfl ?_;refine Cj (Ey (Az (Hq rfl h h0 (by omega) fun i0 S1 f1 g1 hi0=>Az (Ib (Do ?_)))))
 refine Be (Ady (n:=i0) (size:=12) (by decide)) fun S2 f2=>?_
 refine Cj (Agg ?_);have f3:Fr [n] S (S2 ++ [.dct []]):=(f1.then0 f2).then0 .app;have hb:(lawT i0 12).length=12:=Q9 i0 12;have hbt:M2.Dw (lawT i0 12)=true:=Adx i0 12;have hlen:S.length<=S2.length:=(f1.then0 f2).len;have hnl:n < S.length:=Ek h;generalize lawT i0 12=base at hb hbt;generalize hD:S2.length=D;have hD2:(S2 ++ [Cell.dct []])[D]?=some (.dct (dk [])):=by rw[<-hD];exact J2
 have hN2:(S2 ++ [Cell.dct []])[n]?=some (stD (k+1)):=Fr.app.at0 (f2.at0 g1);refine Aq2 (P:=SP.any) (Ig (k:=many) (Ab (Af rfl) Ag) (by unfold big;omega)) trivial fun S3 f4=>?_
 refine Aj6 (J:=fun i δ T=>∃x4 x5 x6 x7 x8 x9 keys,δ=[some (.ref n),some (.int (many:Int)),some (.str base),some (.ref D),x4,x5,x6,x7,x8,x9]/\Fr [n] S T/\T[n]?=some (stD (k+1+(i:Int)))/\T[D]?=some (.dct (dk keys))/\keys.length<=i/\keys.Nodup/\∀z∈keys,isKey z=true) ?_ ?_ ?_
 .rintro i w δ T hw ⟨x4,x5,x6,x7,x8,x9,keys,rfl,fT,hN,hD3,kl,kn,kk⟩;have hi:i < many:=by
   have:=(List.getElem?_eq_some_iff.mp hw).1;rw[length_map,length_range] at this;exact this
  refine⟨_,rfl,?_⟩;refine Cj (Hq rfl hN (by omega) (by omega) fun j T1 e1 gN hj=>?_)
  obtain⟨L,hL,L1,L2⟩:=Am5 j hj;refine Cj (Be (a:=W.int (L:Int)) (V7 (Ab Ai (Ab Ai (Ab (An Ai (An (An (Af rfl) Ai (Dm (j:=5) (by decide) (by decide))) Ai (Cd (j:=12) (by decide))) Cr) (Ab Ai (Ab (An Ai (An (An (Af rfl) Ai (Dm (j:=5) (by decide) (by decide))) Ai (Cd (j:=3) (by decide))) Cr) Ag))))) (by show 5<=big;decide) (An (Af rfl) Ai (Cd (j:=5) (by decide))) hL) fun T2 e2=>?_)
  obtain⟨A,hA,hAL⟩:∃A:Nat,j / 60 % (L:Int)=(A:Int)/\A < L:=by
   have z1:=emod_nonneg (j / 60) (show (L:Int)≠0 by omega)
   have z2:=emod_lt_of_pos (j / 60) (show (0:Int) < L by omega)
   exact⟨(j / 60 % (L:Int)).toNat,by rw[toNat_of_nonneg z1],by omega⟩
  refine Cj (Be (a:=W.int (A:Int)) ((An (An (Af rfl) Ai (Dm (j:=60) (by decide) (by decide))) (Af rfl) (Cd (j:=(L:Int)) (by omega))).cast (by rw[hA])) fun T3 e3=>?_)
  refine Cj (Be (Ah Ag Z4) fun T4 e4=>?_);refine Cj (Be (a:=W.str ⟨#[sgnN (j / 720 % 94)]⟩) (Bh (Af rfl) (An (An (Af rfl) Ai (Dm (j:=720) (by decide) (by decide))) (Pu.cast (a':=W.int 94) (Ah (Ab (Af rfl) Ag) (len_str (by rw[Iw];decide))) (by rw[Iw];rfl)) (Cd (j:=94) (by decide))) (Aik (by omega) (by omega))) fun T5 e5=>?_)
  have hok:M2.okC (sgnN (j / 720 % 94))=true:=Adw (by omega) (by omega)
  generalize sgnN (j / 720 % 94)=c at hok;obtain⟨keys',ek,kl',kn',kk'⟩:=Bcb keys (Ail base A L c);have hnD:n≠D:=by omega
  have fr:Fr [n] T T5:=e1.then0 (((e2.then0 e3).then0 e4).then0 e5);have hD5:=fr.at1 hD3 (Ne.symm hnD);refine Av9 (P:=SP.any) (d:=D) (kk:=.inr (Ail base A L c)) Ai (Af rfl) (Aww hb hAL L2 (Af rfl) (Af rfl) (Af rfl) (Af rfl)) trivial hD5 rfl (by unfold dk big;rw[length_map];omega) fun T6 e6=>?_
  rw[ek];refine Gy ⟨_,_,_,_,_,_,keys',rfl,?_,?_,Pb ?_,by omega,kn' kn,fun z hz=>?_⟩
  .exact(fT.same (fr.then0 e6)).trans Fr.set fun i hi=>.inr (by rw[mem_singleton.mp hi];omega)
  .rw[getElem?_set_ne (Ne.symm hnD)];have:=(((e2.then0 e3).then0 e4).then0 e5).then0 e6 |>.at0 gN;rw[this,show k+1+(i:Int)+1=k+1+((i+1:Nat):Int) by omega]
  .have:=e6.len;have:=Ek hD5;omega
  .rcases kk' z hz with h|h
   .exact kk z h
   .rw[h];exact Awv hb hbt hAL L2 hok
 .rintro δ T ⟨x4,x5,x6,x7,x8,x9,keys,rfl,fT,hN,hD3,kl,kn,kk⟩;rw[length_map,length_range] at hN kl;refine Gd (Ey (Az (Ez rfl (Do (Am4 hD3 (by omega) ?_)))))
  have hp:=Mt keys;refine q T.length (Yg keys) (k+1+(many:Int)) _ (fT.then0 .app) (Fr.app.at0 hN) (by omega) (by omega) J2 fT.len (by rw[hp.length_eq];omega) (fun z hz=>kk z (hp.mem_iff.mp hz)) (Aap kn)
 .refine⟨_,_,_,_,_,_,[],rfl,f3.then0 f4,?_,f4.at0 hD2,le_refl _,.nil,fun z hz=>(nomatch hz)⟩;rw[show k+1+((0:Nat):Int)=k+1 by omega]
  exact f4.at0 hN2
end
section
variable {ns:List Int} {n d:Nat} {k:Int}
def Fits (size:Int) (w:W):Prop:=∃p:Pg,p.ok/\w=p.w/\(p.body.length:Int)<=size - 5
abbrev Agh (n d:Nat) (k:Int) (S:Store) (R:W->Prop):W->Store->Prop:=fun w S'=>∃k',Fr [n] S S'/\S'[n]?=some (stD k')/\k<=k'/\k'<=k+d/\R w
theorem Am7 (i j:Int) (hi:0<=i) (hj:0<=j):∃v,atI [W.int 4095,.int 0,.int 63,.int 64,.int (i % 4096)] (j % 5)=some (.int v)/\Gq v 0=true:=by
 have h5:j % 5=0\/j % 5=1\/j % 5=2\/j % 5=3\/j % 5=4:=by omega
 rcases h5 with h|h|h|h|h <;> rw[h]
 .exact⟨4095,rfl,by decide⟩
 .exact⟨0,rfl,by decide⟩
 .exact⟨63,rfl,by decide⟩
 .exact⟨64,rfl,by decide⟩
 .refine⟨_,rfl,?_⟩;unfold Gq;simp only[and_eq_true,decide_eq_true_eq];omega
theorem Awx {size:Int} (h1:64<=size) (h:S[n]?=some (stD k)) (h0:0<=k) (hk:k+30<=900000) (hv:∃x1 x2 x3 x4 x5 x6 x7,δ=[some (.ref n),x1,x2,x3,x4,x5,x6,x7]) :
  Wb (Aj (Bo 4 (Df 1 [0] (Om Hw (Aa (kF (.int 4)) nilF)) (Cu 0) (fun _=>pure true) (ixF ns (Oj (Aa (kF (.int 4095)) (Aa (kF (.int 0)) (Aa (kF (.int 63)) (Aa (kF (.int 64)) (Aa (Ao .mod (Ae (By ns) (Aa (Ac 1) nilF)) (kF (.int 4096))) nilF)))))) (Ao .mod (Ae (By ns) (Aa (Ac 1) nilF)) (kF (.int 5))))))
  (Aj (retS (Ao .add (Jk (Aa (kF (.str "head")) nilF)) (Ae (Et ns) (Aa (Ac 4) nilF))))
  Am)) δ S (Hk b' (Aah (Agh n 10 k S (Fits size)))):=by
 obtain⟨x1,x2,x3,x4,x5,x6,x7,rfl⟩:=hv;refine Cj (Ade (P:=SP.any) (ws:=(List.range 4).map fun(k:Nat)=>W.int ((0:Int)+(k:Int))) (Ig (k:=4) (Ab Ai Ag) (by decide)) trivial fun S1 f1=>?_)
 refine Yy (J:=fun i δ acc T=>∃x vs,δ=[x,some (.ref n)]/\acc=List.map W.int vs/\vs.length=i/\(∀v∈vs,Gq v 0=true)/\Fr [n] S T/\T[n]?=some (stD (k+2 * (i:Int)))) ?_ ?_ ⟨none,[],rfl,rfl,rfl,fun _ h=>(nomatch h),f1.of0,by rw[show k+2 * ((0:Nat):Int)=k by omega];exact f1.at0 h⟩
 .rintro i w δ acc T hw ⟨x,vs,rfl,rfl,hl,hvs,fT,hT⟩;have hi:i < 4:=by
   have:=(List.getElem?_eq_some_iff.mp hw).1;rw[length_map,length_range] at this;exact this
  refine⟨_,rfl,Ju (if_pos rfl ▸ ?_)⟩;refine Aqy (Adb (Az (Ib (Az (Ib (Az (Ib (Az (Ib (Az (Jm (Hq rfl hT (by omega) (by omega) fun a T1 e1 g1 ha=>Ib (Be (Cd (j:=4096) (by decide)) fun T2 e2=>Do ⟨by show 5<=big;decide,?_⟩)))))))))))))
  have g3:(T2 ++ [Cell.lst [.int 4095,.int 0,.int 63,.int 64,.int (a % 4096)]])[n]?=some (stD (k+2 * (i:Int)+1)):=Fr.app.at0 (e2.at0 g1);have hne:T2.length≠n:=by
   have:=Ek (e2.at0 g1);omega
  refine Jm (Hq rfl g3 (by omega) (by omega) fun b T3 e3 g4 hb=>Ib (Be (Cd (j:=5) (by decide)) fun T4 e4=>?_))
  obtain⟨v,ev,hv⟩:=Am7 a b ha hb;refine Ahx (e4.at0 (e3.at1 J2 hne)) ev ⟨by rw[length_map,hl];unfold big;omega,_,vs ++ [v],rfl,by rw[map_append];rfl,by rw[length_append,hl];rfl,?_,?_,?_⟩
  .intro u hu;rcases mem_append.mp hu with h|h
   .exact hvs u h
   .rw[mem_singleton.mp h];exact hv
  .exact(fT.same (((e1.then0 e2).then0 Fr.app).same e3)).then0 e4
  .rw[e4.at0 g4,show k+2 * (i:Int)+1+1=k+2 * ((i+1:Nat):Int) by omega]
 .rintro δ acc T ⟨x,vs,rfl,rfl,hl,hvs,fT,hT⟩;rw[length_map,length_range] at hl hT;refine⟨by rw[length_map,hl];decide,?_⟩
  have hA:(T ++ [Cell.lst (vs.map W.int)])[T.length]?=some (.lst (vs.map W.int)):=J2;refine Gd (Jm (Be (Tc (Ab Ai Ag) (by decide)) fun T1 e1=>Ey (Az (Ez rfl (Do (Vk (e1.at0 hA) ?_))))))
  obtain⟨a,b,c,d,rfl⟩:∃a b c d,vs=[a,b,c,d]:=by
   match vs,hl with
   |[a,b,c,d],_=>exact⟨a,b,c,d,rfl⟩
  refine⟨Pg.w (.head a b c d),T1,rfl,k+8,(fT.then0 .app).then0 e1,e1.at0 (Fr.app.at0 hT),by omega,by omega,.head a b c d,?_,rfl,?_⟩
  .exact⟨hvs a (by simp),hvs b (by simp),hvs c (by simp),hvs d (by simp)⟩
  .show ((Ho [a,b,c,d]).length:Int)<=size - 5;rw[Js];show ((2 * 4:Nat):Int)<=_;omega
end
theorem Wc {α β:Type} (f:α->β):∀(l:List α) (i:Nat),(l.map f).eraseIdx i=(l.eraseIdx i).map f
 |[],_=>rfl
 |_::_,0=>rfl
 |a::l,i+1=>by
  rw[map_cons,List.eraseIdx_cons_succ,List.eraseIdx_cons_succ,map_cons,Wc f l i]
structure Rows (rs:List (Str×Cl)):Prop where
 len:rs.length<=13
 ok:∀r∈rs,isKey r.1=true/\r.2.ok=true
 rise:Wa (rs.map (·.1))
theorem Rows.rowsOk (h:Rows rs):rowsOk rs:=⟨le_trans h.len (by decide),h.ok,Z6 h.rise⟩
theorem Rows.erase (h:Rows rs) (i:Nat):Rows (rs.eraseIdx i) where
 len:=le_trans (by rw[length_eraseIdx];split <;> omega) h.len
 ok:=fun r hr=>h.ok r (List.mem_of_mem_eraseIdx hr)
 rise:=h.rise.sublist ((List.eraseIdx_sublist rs i).map _)
theorem Agi {α:Type} {l:List α} {i:Nat} (h:i < l.length):(l.eraseIdx i).length < l.length:=by
 rw[length_eraseIdx,if_pos h];omega
theorem Bcc {m:Nat} {i:Int} (h0:0<=i) (h:i < m):ixN m i=some i.toNat:=by
 unfold ixN;rw[if_pos h0,if_pos h]
section
variable {ns:List Int} {n d r:Nat} {k:Int}
theorem Z7 {i:Nat} (h0:∀S,P.p S->AtL r ws S) (hv:δ[i]?=some (some (.ref r))):Pu P (Ae (Et ns) (Aa (Ac i) nilF) δ) (.tup ws):=
 Ah (Ab (Af hv) Ag) fun S hS=>⟨[],by
  have e:S[r]?=some (.lst ws):=h0 S hS;unfold Et;dsimp only;rw[e,append_nil]⟩
theorem Agj {i:Nat} (h0:∀S,P.p S->AtL r ws S) (hv:δ[i]?=some (some (.ref r))):Pu P (Ae (Dd ns) (Aa (Ac i) nilF) δ) (.int ws.length):=
 Ah (Ab (Af hv) Ag) fun S hS=>⟨[],by
  have e:S[r]?=some (.lst ws):=h0 S hS;unfold Dd;dsimp only;rw[e,append_nil]⟩
theorem Akj {i2 i7:Nat} {num:Int} (hr:S[r]?=some (.lst ws)) (h2:δ[i2]?=some (some (.int num))) (h7:δ[i7]?=some (some (.ref r))) (hl:ws.length<=big) (hw:0 < ws.length)
  (q:∀j w S',Fr [] S S'->j < ws.length->Q w (S'.set r (.lst (ws.eraseIdx j)))):Wm (Jc .lst Ng (Ac i7) (Aa (Ao .mod (Ac i2) (Ae (Dd ns) (Aa (Ac i7) nilF))) nilF) δ) S Q:=by
 refine Av8 (P:=SP.any) (Af h7) trivial hr fun S1 f1=>?_;have hr1:=f1.at0 hr;have hm:0 < (ws.length:Int):=by omega
 have z1:=emod_nonneg num (show (ws.length:Int)≠0 by omega)
 have z2:=emod_lt_of_pos num hm;refine Az (Jm (Ez h2 ?_));refine Ey (Az (Ez h7 (Do (Av7 hr1 ?_))));refine Be (Cd hm) fun S2 f2=>Do ?_;obtain⟨w,hw2⟩:∃w,ws[(num % (ws.length:Int)).toNat]?=some w:=⟨_,getElem?_eq_getElem (by omega)⟩
 exact Aqz (f2.at0 hr1) hl (Bcc z1 z2) hw2 (q _ w S2 (f1.then0 f2) (by omega))
theorem Awy {size num:Int} (h1:64<=size) (h2:size<=200) (hn:0<=num) {k0:Int} (f0:Fr [n] S0 S) (h:S[n]?=some (stD k)) (h0:0<=k) (hk0:k0<=k) (hkd:k<=k0+15) (hk:k+30<=900000) (hr:S[r]?=some (.lst (keys.map W.str))) (hrl:S0.length<=r) (kl:keys.length<=13) (kk:∀z∈keys,isKey z=true) (kr:Wa keys)
  (hv:∃x3 x4 x5 x7,δ=[some (.ref n),some (.int size),some (.int num),x3,x4,x5,some (.ref r),x7]) (hn0:n < S0.length) :
  Wb (Aj (Bo 7 (Df 1 [1,0] (Eh ns (Ac 6)) (Cu 0) (fun _=>pure true) (Jk (Aa (Ac 0) (Aa (Ae (Lk ns) (Aa (Ac 2) (Aa (Ac 1) nilF))) nilF)))))
  (Aj (Hs (Ay (Bf .Gt (Ae (Dd ns) (Aa (Ae (Hy ns) (Aa (Jk (Aa (kF (.str "leaf")) (Aa (Ae (Et ns) (Aa (Ac 7) nilF)) nilF))) nilF)) nilF)) (Ao .sub (Ac 1) (kF (.int 5))))) (Aj (Rz (Jc .lst Ng (Ac 7) (Aa (Ao .mod (Ac 2) (Ae (Dd ns) (Aa (Ac 7) nilF))) nilF)))
   Am) fuel)
  (Aj (retS (Jk (Aa (kF (.str "leaf")) (Aa (Ae (Et ns) (Aa (Ac 7) nilF)) nilF))))
  Am))) δ S (Hk b' (Aah (Agh n 30 k0 S0 (Fits size)))):=by
 obtain⟨x3,x4,x5,x7,rfl⟩:=hv;have hnr:r≠n:=by omega
 refine Cj (Aq3 (P:=SP.any.at r (keys.map W.str)) (Aj1 (fun _ h=>h.2) (Af rfl)) ⟨trivial,hr⟩ hr fun S1 f1=>?_);refine Vm (d:=r) (ws:=keys.map W.str) (J:=fun i δ acc T=>∃x rs k',δ=[x,some (.int size),some (.ref n)]/\acc=List.map Ob rs/\rs.map (·.1)=keys.take i/\(∀r∈rs,r.2.ok=true)/\Fr [n] S T/\T[n]?=some (stD k')/\k<=k'/\k'<=k+i) ?_ ?_ ?_ _ 0 _ [] S1 ?_ (zero_le _) (by omega)
 .rintro i δ acc T ⟨x,rs,k',_,_,_,_,fT,_⟩;exact fT.at1 hr hnr
 .rintro i w δ acc T hw ⟨x,rs,k',rfl,rfl,e1,e2,fT,hT,q1,q2⟩;rw[getElem?_map] at hw;obtain⟨z,hz,rfl⟩:=map_eq_some_iff.mp hw;have hi:i < keys.length:=(List.getElem?_eq_some_iff.mp hz).1;refine⟨_,rfl,Ju (if_pos rfl ▸ ?_)⟩;refine Kr (Az (Ez rfl (Az ?_)));refine Ey (Az (Ez rfl (Az (Ez rfl (Do ?_)))));refine Bfm (Awt h1 h2) hT (by omega) (by omega) fun c k2 T2 g1 g2 g3 g4 hcl=>?_
  obtain⟨cl,hc,ec⟩:=hcl;refine Do ⟨by show 2<=big;decide,?_⟩
  subst ec;have hrs:rs.length=i:=by
   have:=congrArg List.length e1;rw[length_map,length_take] at this;omega
  refine⟨by rw[length_map,hrs];unfold big;omega,_,rs ++ [(z,cl)],k2,rfl,by rw[map_append];rfl,?_,?_,fT.same g1,g2,by omega,by omega⟩
  .rw[map_append,e1,map_cons,map_nil,List.take_add_one,hz];rfl
  .intro r hr;rcases mem_append.mp hr with h|h
   .exact e2 r h
   .rw[mem_singleton.mp h];exact hc
 .rintro δ acc T ⟨x,rs,k',rfl,rfl,e1,e2,fT,hT,q1,q2⟩;rw[length_map] at e1 q2;rw[take_length] at e1;have hrs:rs.length=keys.length:=by rw[<-e1,length_map]
  refine⟨by rw[length_map];unfold big;omega,?_⟩
  have hR:Rows rs:=⟨by omega,fun r hr=>⟨kk r.1 (e1 ▸ mem_map.mpr ⟨r,hr,rfl⟩),e2 r hr⟩,e1 ▸ kr⟩
  have hn2:n < T.length:=Ek hT;refine Afc (fuel:=fuel) (m:=rs.length) (J:=fun m δ U=>∃rs,δ=[some (.ref n),some (.int size),some (.int num),x3,x4,x5,some (.ref r),some (.ref T.length)]/\m=rs.length/\Rows rs/\U[T.length]?=some (.lst (rs.map Ob))/\Fr [n] S U/\U[n]?=some (stD k')) ⟨rs,rfl,rfl,hR,J2,fT.then0 .app,Fr.app.at0 hT⟩ (by unfold fuel;omega) ?_
  rintro m δ U ⟨rs,rfl,rfl,hR,hU,fU,hN⟩;have hok:Pg.ok (.leaf rs):=hR.rowsOk;have hbl:(Pg.leaf rs).body.length<=big:=by
   show (M1.Bu 1 rs.length ++ jn (rs.map Jd)).length<=big;have:=Ab0 (ys:=rs.map Jd) (c:=78) (n:=13) (fun y hy=>by
    obtain⟨r,hr,rfl⟩:=mem_map.mp hy;exact Z1 (hR.ok r hr).1 (hR.ok r hr).2) (by rw[length_map];exact hR.len)
   rw[len_app,Bj];unfold big;omega
  refine Oi (P:=SP.any.at T.length (rs.map Ob)) (a:=decide (size - 5 < ((Pg.leaf rs).body.length:Int))) (Al (Ar (Ah (Ab (Ah (Ab (Tc (Ab Ai (Ab (Z7 (fun _ h=>h.2) rfl) Ag)) (by show 2<=big;decide)) Ag) (Z3 hok)) Ag) (len_str hbl)) (An (Af rfl) Ai Gn) R5)) ⟨trivial,hU⟩ fun U1 e1=>?_
  by_cases hc:size - 5 < ((Pg.leaf rs).body.length:Int)
  .rw[if_pos (decide_eq_true hc)];have hpos:0 < (rs.map Ob).length:=by
    rw[length_map];rcases Nat.eq_zero_or_pos rs.length with z|z
    .have:rs=[]:=List.length_eq_zero_iff.mp z;subst this;have:((Pg.leaf []).body.length:Int)=1:=rfl;omega
    .exact z
   refine Aj3 (Akj (e1.at0 hU) rfl rfl (by rw[length_map];have:=hR.len;unfold big;omega) hpos fun j w U2 e2 hj=>?_)
   rw[length_map] at hj;refine Gy ⟨_,Agi hj,rs.eraseIdx j,rfl,rfl,hR.erase j,?_,?_,?_⟩
   .rw[Wc];exact Pb (by have:=Ek (e2.at0 (e1.at0 hU));omega)
   .exact(fU.then0 (e1.then0 e2)).trans Fr.set fun i hi=>.inr (by rw[mem_singleton.mp hi];exact fT.len)
   .rw[getElem?_set_ne (by omega)]
    exact e2.at0 (e1.at0 hN)
  .rw[if_neg (by rw[decide_eq_false hc];exact Bool.false_ne_true)]
   refine Gd (Oi (P:=SP.any.at T.length (rs.map Ob)) (Tc (Ab Ai (Ab (Z7 (fun _ h=>h.2) rfl) Ag)) (by show 2<=big;decide)) ⟨trivial,e1.at0 hU⟩ fun U2 e2=>?_)
   exact⟨k',f0.same ((fU.then0 e1).then0 e2),e2.at0 (e1.at0 hN),by omega,by omega,.leaf rs,hok,rfl,by omega⟩
 .exact⟨none,[],k,rfl,rfl,rfl,fun _ h=>(nomatch h),f1.of0,f1.at0 h,by omega,by omega⟩
end
structure Aru (ks:List Str):Prop where
 len:ks.length<=13
 ok:∀z∈ks,isKey z=true
 rise:Wa ks
theorem Aru.erase (h:Aru ks) (i:Nat):Aru (ks.eraseIdx i) where
 len:=le_trans (by rw[length_eraseIdx];split <;> omega) h.len
 ok:=fun r hr=>h.ok r (List.mem_of_mem_eraseIdx hr)
 rise:=h.rise.sublist (List.eraseIdx_sublist ks i)
def Tw (ks:List Str):Int:=(ks.map fun z=>1+(z.length:Int)).sum
theorem Agk:∀ks:List Str,((jn (ks.map Gr)).length:Int)=Tw ks
 |[]=>rfl
 |z::ks=>by
  have ih:=Agk ks;unfold Tw at ih ⊢
  rw[map_cons,map_cons,G6,len_app,sum_cons,<-ih];unfold Gr;rw[len_app,Bj];omega
theorem Arv (ks:List Str) (ps:List Int) (h:ps.length=ks.length+1):((Pg.fork ks ps).body.length:Int)=1+Tw ks+2 * (ks.length:Int)+2:=by
 show ((M1.Bu 1 ks.length ++ jn (ks.map Gr) ++ Ho ps).length:Int)=_;rw[len_app,len_app,Bj,Js,h,<-Agk];omega
theorem Arw {i:Int} (h0:0<=i) (h1:i<=1000000):small i=true:=Ab5 h0 h1
section
variable {ns:List Int} {n d r:Nat} {k:Int}
theorem Am8 {i:Nat} (h0:∀S,P.p S->AtL r (ks.map W.str) S) (hv:δ[i]?=some (some (.ref r))) (hl:ks.length<=big) (hk:∀z∈ks,isKey z=true) :
  Pu P (Ae Acr (Aa (Df 1 [] (Eh ns (Ac i)) (Cu 0) (fun _=>pure true) (Ao .add (kF (.int 1)) (Ae (Dd ns) (Aa (Ac 0) nilF)))) nilF) δ) (.int (Tw ks)):=by
 refine Aqu (is:=ks.map fun z=>1+(z.length:Int)) ?_;have h:=Aj0 (P:=P) (xs:=ks) (φ:=W.str) (ψ:=fun z=>W.int (1+(z.length:Int))) (τ:=fun _=>true) (s:=Cu 0) (t:=fun _=>pure true) (e:=Ao .add (kF (.int 1)) (Ae (Dd ns) (Aa (Ac 0) nilF))) (k:=1) (cap:=[]) (δ:=δ) (src:=Eh ns (Ac i)) (n:=r) h0
  (Aj1 h0 (Af hv)) Ajy (fun z hz=>⟨Pu.pure,fun _=>An Ai (Ah (Ab (Af rfl) Ag) (len_str (U0 (hk z hz)))) Cr⟩) ⟨none,rfl⟩ hl
 rw[filter_eq_self.mpr (fun _ _=>rfl)] at h;rw[map_map];exact h
theorem Awz {size num:Int} (h1:64<=size) (h2:size<=200) (hn:0<=num) {k0:Int} (f0:Fr [n] S0 S) (h:S[n]?=some (stD k)) (h0:0<=k) (hk0:k0<=k) (hkd:k<=k0+15) (hk:k+30<=900000) (hr:S[r]?=some (.lst (keys.map W.str))) (hrl:S0.length<=r) (hK:Aru keys)
  (hv:∃x3 x4 x5 x7,δ=[some (.ref n),some (.int size),some (.int num),x3,x4,x5,some (.ref r),x7]) (hn0:n < S0.length) :
  Wb (Aj (Hs (Ay (Bf .Gt (Ao .add (Ao .add (Ao .add (kF (.int 1)) (Ae Acr (Aa (Df 1 [] (Eh ns (Ac 6)) (Cu 0) (fun _=>pure true) (Ao .add (kF (.int 1)) (Ae (Dd ns) (Aa (Ac 0) nilF)))) nilF))) (Ao .mul (kF (.int 2)) (Ae (Dd ns) (Aa (Ac 6) nilF)))) (kF (.int 2))) (Ao .sub (Ac 1) (kF (.int 5))))) (Aj (Rz (Jc .lst Ng (Ac 6) (Aa (Ao .mod (Ac 2) (Ae (Dd ns) (Aa (Ac 6) nilF))) nilF)))
  Am) fuel)
 (Aj (retS (Jk (Aa (kF (.str "fork")) (Aa (Ae (Et ns) (Aa (Ac 6) nilF)) (Aa (Ae (Et ns) (Aa (Df 1 [0] (Om Hw (Aa (Ao .add (Ae (Dd ns) (Aa (Ac 6) nilF)) (kF (.int 1))) nilF)) (Cu 0) (fun _=>pure true) (Ao .add (kF (.int 1)) (Ao .mod (Ae (By ns) (Aa (Ac 1) nilF)) (kF (.int 4095))))) nilF)) nilF)))))
 Am)) δ S (Aah (Agh n 30 k0 S0 (Fits size))):=by
 obtain⟨x3,x4,x5,x7,rfl⟩:=hv;have hnr:r≠n:=by omega
 refine Afc (fuel:=fuel) (m:=keys.length) (J:=fun m δ U=>∃ks,δ=[some (.ref n),some (.int size),some (.int num),x3,x4,x5,some (.ref r),x7]/\m=ks.length/\Aru ks/\U[r]?=some (.lst (ks.map W.str))/\Fr [n] S0 U/\U[n]?=some (stD k)) ⟨keys,rfl,rfl,hK,hr,f0,h⟩ (by have:=hK.len;unfold fuel;omega) ?_
 rintro m δ U ⟨ks,rfl,rfl,hK,hU,fU,hN⟩;have kl:=hK.len;have hsm:small ((ks.length:Nat):Int)=true:=Arw (by omega) (by omega)
 have hlm:((ks.map W.str).length:Int)=(ks.length:Int):=by rw[length_map]
 refine Oi (P:=SP.any.at r (ks.map W.str)) (a:=decide (size - 5 < 1+Tw ks+2 * (ks.length:Int)+2)) (Al ((Ar (An (An (An Ai (Am8 (fun _ h=>h.2) rfl (by unfold big;omega) hK.ok) Cr) (An Ai (Pu.cast (a':=W.int (ks.length:Int)) (Agj (fun _ h=>h.2) rfl) (by rw[hlm])) (Ie (by rw[hsm,Bool.or_true]))) Cr) Ai Cr) (An (Af rfl) Ai Gn) R5))) ⟨trivial,hU⟩ fun U1 e1=>?_
 by_cases hc:size - 5 < 1+Tw ks+2 * (ks.length:Int)+2
 .rw[if_pos (decide_eq_true hc)];have hpos:0 < (ks.map W.str).length:=by
   rw[length_map];rcases Nat.eq_zero_or_pos ks.length with z|z
   .have:ks=[]:=List.length_eq_zero_iff.mp z;subst this;have:Tw []=0:=rfl;have:(([]:List Str).length:Int)=0:=rfl;omega
   .exact z
  refine Aj3 (Akj (e1.at0 hU) rfl rfl (by rw[length_map];unfold big;omega) hpos fun j w U2 e2 hj=>?_)
  rw[length_map] at hj;refine Gy ⟨_,Agi hj,ks.eraseIdx j,rfl,rfl,hK.erase j,?_,?_,?_⟩
  .rw[Wc];exact Pb (by have:=Ek (e2.at0 (e1.at0 hU));omega)
  .exact(fU.then0 (e1.then0 e2)).trans Fr.set fun i hi=>.inr (by rw[mem_singleton.mp hi];exact hrl)
  .rw[getElem?_set_ne hnr];exact e2.at0 (e1.at0 hN)
 .rw[if_neg (by rw[decide_eq_false hc];exact Bool.false_ne_true)]
  have hU1:=e1.at0 hU;refine Gd (Kr (Az (Ib (Az ?_))));refine Oi (P:=SP.any.at r (ks.map W.str)) (Z7 (fun _ h=>h.2) rfl) ⟨trivial,hU1⟩ fun U2 e2=>?_;refine Az (Ey (Az ?_));refine Ade (P:=SP.any.at r (ks.map W.str)) (ws:=(List.range (ks.length+1)).map fun(k:Nat)=>W.int ((0:Int)+(k:Int))) (Ig (k:=ks.length+1) (Ab (Pu.cast (An (Agj (fun _ h=>h.2) rfl) Ai Cr) (by rw[hlm];rfl)) Ag) (by unfold big;omega)) ⟨trivial,e2.at0 hU1⟩ fun U3 e3=>?_
  have f3:Fr [n] S0 U3:=((fU.then0 e1).then0 e2).then0 e3;refine Yy (J:=fun i δ acc T=>∃x ps,δ=[x,some (.ref n)]/\acc=List.map W.int ps/\ps.length=i/\(∀p∈ps,Gq p 1=true)/\Fr [n] S0 T/\T[n]?=some (stD (k+(i:Int)))) ?_ ?_ ⟨none,[],rfl,rfl,rfl,fun _ h=>(nomatch h),f3,by rw[show k+((0:Nat):Int)=k by omega];exact e3.at0 (e2.at0 (e1.at0 hN))⟩
  .rintro i w δ acc T hw ⟨x,ps,rfl,rfl,hl,hps,fT,hT⟩;have hi:i < ks.length+1:=by
    have:=(List.getElem?_eq_some_iff.mp hw).1;rw[length_map,length_range] at this;exact this
   refine⟨_,rfl,Ju (if_pos rfl ▸ ?_)⟩;refine Jm (Ib (Jm ?_));refine Hq rfl hT (by omega) (by omega) fun a T1 g1 g2 ha=>Ib ?_
   refine Be (Cd (j:=4095) (by decide)) fun T2 g3=>Be Cr fun T3 g4=>?_
   refine⟨by rw[length_map,hl];unfold big;omega,_,ps ++ [1+a % 4095],rfl,by rw[map_append];rfl,by rw[length_append,hl];rfl,?_,?_,?_⟩
   .intro u hu;rcases mem_append.mp hu with h|h
    .exact hps u h
    .rw[mem_singleton.mp h];unfold Gq;simp only[and_eq_true,decide_eq_true_eq];omega
   .exact(fT.same g1).then0 (g3.then0 g4)
   .rw[g4.at0 (g3.at0 g2),show k+(i:Int)+1=k+((i+1:Nat):Int) by omega]
  .rintro δ acc T ⟨x,ps,rfl,rfl,hl,hps,fT,hT⟩;rw[length_map,length_range] at hl hT;refine⟨by rw[length_map,hl];unfold big;omega,Do (Vk J2 (Do ⟨by show 3<=big;decide,?_⟩))⟩
   refine⟨k+((ks.length+1:Nat):Int),fT.then0 .app,Fr.app.at0 hT,by omega,by omega,.fork ks ps,⟨⟨by omega,hK.ok,Z6 hK.rise⟩,hl,hps⟩,rfl,?_⟩
   rw[Arv ks ps hl];omega
end
section
variable {ns:List Int} {n d r:Nat} {k:Int}
theorem Am9 (i:Int) (hi:0<=i):∃v,atI [W.int 0,.int 1,.int 4095,.int (i / 7 % 4096)] (i / 7 % 4)=some (.int v)/\Gq v 0=true:=by
 have h4:i / 7 % 4=0\/i / 7 % 4=1\/i / 7 % 4=2\/i / 7 % 4=3:=by omega
 rcases h4 with h|h|h|h <;> rw[h]
 .exact⟨0,rfl,by decide⟩
 .exact⟨1,rfl,by decide⟩
 .exact⟨4095,rfl,by decide⟩
 .refine⟨_,rfl,?_⟩;unfold Gq;simp only[and_eq_true,decide_eq_true_eq];omega
theorem Arx (i size:Int) (hi:0<=i) (h1:64<=size) (h2:size<=200):∃L:Nat,atI [W.int 1,.int (size - 7),.int (1+i / 7 % (size - 7))] (i / 7 % 3)=some (.int (L:Int))/\1<=L/\(L:Int)<=size - 7:=by
 have h3:i / 7 % 3=0\/i / 7 % 3=1\/i / 7 % 3=2:=by omega
 have z1:=emod_nonneg (i / 7) (show size - 7≠0 by omega)
 have z2:=emod_lt_of_pos (i / 7) (show 0 < size - 7 by omega)
 rcases h3 with h|h|h <;> rw[h]
 .exact⟨1,rfl,by omega,by omega⟩
 .refine⟨(size - 7).toNat,?_,by omega,by omega⟩
  rw[toNat_of_nonneg (by omega)];rfl
 .refine⟨(1+i / 7 % (size - 7)).toNat,?_,by omega,by omega⟩
  rw[toNat_of_nonneg (by omega)];rfl
theorem Ana (i:Int) (hi:0<=i):∃v,atI [W.int 0,.int (i / 21 % 4096)] (i / 7 % 2)=some (.int v)/\Gq v 0=true:=by
 have h4:i / 7 % 2=0\/i / 7 % 2=1:=by omega
 rcases h4 with h|h <;> rw[h]
 .exact⟨0,rfl,by decide⟩
 .refine⟨_,rfl,?_⟩;unfold Gq;simp only[and_eq_true,decide_eq_true_eq];omega
theorem Aw0 {size:Int} (h1:64<=size) (h2:size<=200) (h:S[n]?=some (stD k)) (h0:0<=k) (hk:k+100<=900000) (q:∀w S',Agh n 31 k S (Fits size) w S'->Q w S'):Wm (Pz ns [.ref n,.int size]) S Q:=by
 refine Dr (Q:=Agh n 31 k S (Fits size)) ?_ q;have hnl:n < S.length:=Ek h;refine Ks rfl ?_;refine Cj (Hq rfl h h0 (by omega) fun i S1 f1 g1 hi=>?_)
 refine Cj (Be (a:=W.int (i % 7)) (An (Af rfl) Ai (Cd (j:=7) (by decide))) fun S2 f2=>?_)
 have fr2:Fr [n] S S2:=f1.then0 f2;have g2:=f2.at0 g1;have eqT:∀{T:Store} {c:Int} {K:Bool->Store->Prop} {δ:De},δ[3]?=some (some (.int (i % 7)))->(∀T',Fr [] T T'->K (i % 7==c) T')->Wm (Ay (Bf .Eq (Ac 3) (kF (.int c))) δ) T K:=fun hv k=>Be (Al (Ar (Af hv) Ai Ih)) k;have ife:∀{c:Int},(i % 7==c)=decide (i % 7=c):=fun {c}=>by
  by_cases hc:i % 7=c
  .rw[decide_eq_true hc,hc];exact beq_self_eq_true c
  .rw[decide_eq_false hc];exact beq_eq_false_iff_ne.mpr hc
 by_cases c0:i % 7=0
 .refine J3 (eqT rfl fun S3 f3=>⟨by rw[ife];exact decide_eq_true c0,?_⟩)
  refine Aj4 (Awx h1 (f3.at0 g2) (by omega) (by omega) ⟨_,_,_,_,_,_,_,rfl⟩) fun w T ⟨k',e1,e2,e3,e4,e5⟩=>⟨k',(fr2.then0 f3).same e1,e2,by omega,by omega,e5⟩
 refine Gu (eqT rfl fun S3 f3=>⟨by rw[ife];exact decide_eq_false c0,?_⟩)
 have fr3:=fr2.then0 f3;have g3:=f3.at0 g2;by_cases c1:i % 7=1
 .refine J3 (eqT rfl fun S4 f4=>⟨by rw[ife];exact decide_eq_true c1,?_⟩)
  obtain⟨v,ev,hv⟩:=Am9 i hi;refine Gd (Be (a:=Pg.w (.free v)) (Tc (Ab Ai (Ab (V7 (Ab Ai (Ab Ai (Ab Ai (Ab (An (An (Af rfl) Ai (Dm (j:=7) (by decide) (by decide))) Ai (Cd (j:=4096) (by decide))) Ag)))) (by show 4<=big;decide) (An (An (Af rfl) Ai (Dm (j:=7) (by decide) (by decide))) Ai (Cd (j:=4) (by decide))) ev) Ag)) (by show 2<=big;decide)) fun S5 f5=>?_)
  refine⟨k+1,(fr3.then0 f4).then0 f5,f5.at0 (f4.at0 g3),by omega,by omega,.free v,hv,rfl,?_⟩
  show ((Ho [v]).length:Int)<=size - 5;rw[Js];show ((2 * 1:Nat):Int)<=_;omega
 refine Gu (eqT rfl fun S4 f4=>⟨by rw[ife];exact decide_eq_false c1,?_⟩)
 have fr4:=fr3.then0 f4;have g4:=f4.at0 g3;by_cases c2:i % 7=2
 .refine J3 (eqT rfl fun S5 f5=>⟨by rw[ife];exact decide_eq_true c2,?_⟩)
  obtain⟨L,eL,L1,L2⟩:=Arx i size hi h1 h2;obtain⟨v,ev,hv⟩:=Ana i hi;refine Cj (Be (a:=W.int (L:Int)) (V7 (Ab Ai (Ab (An (Af rfl) Ai Gn) (Ab (An Ai (An (An (Af rfl) Ai (Dm (j:=7) (by decide) (by decide))) (An (Af rfl) Ai Gn) (Cd (j:=size - 7) (by omega))) Cr) Ag))) (by show 3<=big;decide) (An (An (Af rfl) Ai (Dm (j:=7) (by decide) (by decide))) Ai (Cd (j:=3) (by decide))) eL) fun S6 f6=>?_)
  refine Gd (Be (a:=Pg.w (.rest (lawT i L) v)) (Tc (Ab Ai (Ab (Ah (Ab (Af rfl) (Ab (Af rfl) Ag)) (Ady (by omega))) (Ab (V7 (Ab Ai (Ab (An (An (Af rfl) Ai (Dm (j:=21) (by decide) (by decide))) Ai (Cd (j:=4096) (by decide))) Ag)) (by show 2<=big;decide) (An (An (Af rfl) Ai (Dm (j:=7) (by decide) (by decide))) Ai (Cd (j:=2) (by decide))) ev) Ag))) (by show 3<=big;decide)) fun S7 f7=>?_)
  refine⟨k+1,((fr4.then0 f5).then0 f6).then0 f7,f7.at0 (f6.at0 (f5.at0 g4)),by omega,by omega,.rest (lawT i L) v,⟨Adx i L,by rw[Q9];exact L1,by rw[Q9];omega,hv⟩,rfl,?_⟩
  show ((Ho [v] ++ lawT i L).length:Int)<=size - 5;rw[len_app,Js,Q9];show ((2 * 1+L:Nat):Int)<=_;omega
 refine Gu (eqT rfl fun S5 f5=>⟨by rw[ife];exact decide_eq_false c2,?_⟩)
 have fr5:=fr4.then0 f5;have g5:=f5.at0 g4;obtain⟨m,em,hm⟩:∃m:Nat,i / 7 % 14=(m:Int)/\m<=13:=⟨(i / 7 % 14).toNat,by omega,by omega⟩
 refine Cj (Ey (Az (Ez rfl (Az (Be (a:=W.int (m:Int)) ((An (An (Af rfl) Ai (Dm (j:=7) (by decide) (by decide))) Ai (Cd (j:=14) (by decide))).cast (by rw[em])) fun S6 f6=>Do (Am6 hm (f6.at0 g5) (by omega) (by omega) fun r keys k' S7 f7 g7 q1 q2 hr hrl kl kk kr=>?_))))))
 have fr7:Fr [n] S S7:=(fr5.then0 f6).same f7;have hrS:S.length<=r:=by
  have:=(fr5.then0 f6).len;omega
 refine Adc (Be (a:=decide (i % 7 < 5)) (Al (Ar (Af rfl) Ai Ul)) fun S8 f8=>?_);by_cases c3:i % 7 < 5
 .rw[if_pos (decide_eq_true c3)];exact Aj4 (Awy h1 h2 hi (k0:=k) (fr7.then0 f8) (f8.at0 g7) (by omega) (by omega) (by omega) (by omega) (f8.at0 hr) hrS kl kk kr ⟨_,_,_,_,rfl⟩ hnl) fun w T ⟨k',e1,e2,e3,e4,e5⟩=>⟨k',e1,e2,e3,by omega,e5⟩
 .rw[if_neg (by rw[decide_eq_false c3];exact Bool.false_ne_true)]
  refine Gy ?_;exact Aq1 (Awz h1 h2 hi (k0:=k) (fr7.then0 f8) (f8.at0 g7) (by omega) (by omega) (by omega) (by omega) (f8.at0 hr) hrS ⟨kl,kk,kr⟩ ⟨_,_,_,_,rfl⟩ hnl) fun w T ⟨k',e1,e2,e3,e4,e5⟩=>⟨k',e1,e2,e3,by omega,e5⟩
end
theorem Adz:∀(k:Nat) (n:Int) (c:Nat),c∈(M1.Bu k n).cps.toList->M1.inS c=true
 |0,_,c,h=>by cases h
 |k+1,n,c,h=>by
  rw[M1.Abe] at h;rcases mem_cons.mp h with h|h
  .subst h;exact M1.Aq5 (by omega)
  .exact Adz k n c h
section
variable {ns:List Int}
theorem Aim {k:Nat} {n:Int} (h1:1<=k) (h2:k<=3):Pu P (Hg ns [.str (M1.Bu k n)]) (.bl true):=by
 have hl:=Bj k n;have hb:(M1.Bu k n).length<=big:=by rw[hl];exact le_trans h2 (by decide)
 apply Bq (ws:=[.str (M1.Bu k n)]) rfl;refine Bx (Dz (Em (Cz (Al (Ah (Ab (Af rfl) (Ab Ai Ag)) Rq))) (Em (Al (Ar (Ah (Ab (Af rfl) Ag) (len_str hb)) Ai Ul)) (Al (Ar (Ah (Ab (Af rfl) Ag) (len_str hb)) Ai R5)))) (by
  rw[hl,decide_eq_false (by omega),decide_eq_false (by omega)];rfl) Av) ?_
 have h:=Fz (P:=P) (xs:=(M1.Bu k n).cps.toList) (φ:=fun c=>W.str ⟨#[c]⟩) (ψ:=fun _=>W.bl true) (t:=fun _=>pure true) (e:=Bf .In (Ac 0) (kF (.str "0123456789abcdefghijklmnopqrstuvwxyzABCDEFGHIJKLMNOPQRSTUVWXYZ+-"))) (cs:=[]) (cap:=[]) (δ:=Bw 1 [.str (M1.Bu k n)]) (src:=Eh ns (Ac 0)) (Ajx hb (Af rfl)) rfl (by rw[length_toList];exact hb)
  (fun c hc=>⟨Pu.pure,Ar (Af rfl) Ai (Pu.cast Pu.pure (congrArg W.bl (Adz k n c hc)))⟩)
 refine Bp (Bb ((Nm (bs:=(M1.Bu k n).cps.toList.map fun _=>true) (by rw[map_map];exact h)).cast ?_))
 rw[show ((M1.Bu k n).cps.toList.map fun _=>true).all id=true from all_eq_true.mpr fun b hb=>by obtain⟨_,_,rfl⟩:=mem_map.mp hb;rfl]
theorem Aw1 {i:Int} (h0:0<=i) (h1:i < 1000000):Pu P (Bop.fn .shl (.int i) (.int 6)) (.int (i * 64)):=Pu.cast (G8 (by rw[and_eq_true];exact⟨by decide,decide_eq_true (by omega)⟩) Pu.pure) rfl
theorem Ary {a:Int} {c:Nat} (hc:M1.inS c=true) (h0:0<=a) (h1:a < 1000000):PuN P (Aj (Bo 1 (Ao .add (Ao .shl (Ac 1) (kF (.int 6))) (Jc .str Nh (kF (.str "0123456789abcdefghijklmnopqrstuvwxyzABCDEFGHIJKLMNOPQRSTUVWXYZ+-")) (Aa (Ac 2) nilF)))) Am)
  [some (.str z),some (.int a),some (.str ⟨#[c]⟩)] [some (.str z),some (.int (a * 64+(M1.idx c:Int))),some (.str ⟨#[c]⟩)]:=by
 refine Mf (Bd (An (An (Af rfl) Ai (Aw1 h0 h1)) (V3 (w:=.int (M1.idx c:Nat)) Ai (Ab (Af rfl) Ag) ?_) Cr)) Av;obtain⟨r,e⟩:=M1.Afd hc;show Pu P (match Builtin.Str.occurrences M1.sgs (M1.one c) 0 M1.sgs.length 1 with|i::_=>pure (W.int (i:Nat))|[]=>bad) _
 rw[e];exact Pu.pure
theorem Ab6 {k:Nat} {n:Int} (h1:1<=k) (h2:k<=3) (hn:0<=n) (hk:n < 64 ^ k):Pu P (Ln ns [.str (M1.Bu k n)]) (.int n):=by
 have hl:=Bj k n;have hb:(M1.Bu k n).length<=big:=by rw[hl];exact le_trans h2 (by decide)
 apply Bq (ws:=[.str (M1.Bu k n)]) rfl;refine Bx (Dz (Cz (Al (Ah (Ab (Af rfl) Ag) (Aim h1 h2)))) rfl Av) (Bx (Bd Ai) ?_);have key:∀(l:List Nat) (a:Int) (m:Nat) (x:Option W),(∀c∈l,M1.inS c=true)->0<=a->a < 64 ^ m->m+l.length<=3->∃y,PuN P (Ly (Cu 2) (Aj (Bo 1 (Ao .add (Ao .shl (Ac 1) (kF (.int 6))) (Jc .str Nh (kF (.str "0123456789abcdefghijklmnopqrstuvwxyzABCDEFGHIJKLMNOPQRSTUVWXYZ+-")) (Aa (Ac 2) nilF)))) Am) (l.map fun c=>W.str ⟨#[c]⟩))
   [some (.str (M1.Bu k n)),some (.int a),x] [some (.str (M1.Bu k n)),some (.int (M1.Aq6 l a)),y]:=by
  intro l;induction l with
  |nil=>exact fun a m x _ _ _ _=>⟨x,Rk⟩
  |cons c l ih=>
   intro a m x hc h0 h1 hm;have hi:=M1.Bbz (hc c mem_cons_self);rw[length_cons] at hm;have hp:(64:Int) ^ (m+1)=64 ^ m * 64:=pow_succ 64 m;obtain⟨y,hy⟩:=ih (a * 64+(M1.idx c:Int)) (m+1) (some (.str ⟨#[c]⟩)) (fun d hd=>hc d (mem_cons_of_mem _ hd)) (by omega) (by rw[hp];omega) (by omega)
   have ha:a < 1000000:=by
    have:m=0\/m=1\/m=2:=by omega
    rcases this with rfl|rfl|rfl
    .exact lt_trans h1 (by decide)
    .exact lt_trans h1 (by decide)
    .exact lt_trans h1 (by decide)
   exact⟨y,Jz rfl (Ary (hc c mem_cons_self) h0 ha) hy⟩
 obtain⟨y,hy⟩:=key (M1.Bu k n).cps.toList 0 0 none (Adz k n) (by decide) (by decide) (by rw[length_toList];show 0+(M1.Bu k n).length<=3;omega)
 refine Bx (Lj (Ajx hb (Af rfl)) hy) (Bp (Bb (Pu.cast (Af rfl) ?_)));rw[M1.Adf hn hk]
end
def rdr (B:Str) (k:Nat):Cell:=.ins 5 [("body",.str B),("place",.int (k:Int))]
def Rx (n:Nat) (m:M W) (x:Str) (w:W):Prop:=∀(B a r:Str) (S:Store),B=a ++ (x ++ r)->B.length<=400->S[n]?=some (rdr B a.length)->Wm m S fun v S'=>v=w/\S'[n]?=some (rdr B (a ++ x).length)/\Fr [n] S S'
theorem Iz (x y:Str):(x ++ y).cps.toList=x.cps.toList ++ y.cps.toList:=by
 show (x.cps ++ y.cps).toList=_;rw[toList_append]
theorem str_list (x:Str):(⟨x.cps.toList.toArray⟩:Str)=x:=by cases x;rfl
theorem U8 (a x r:Str):cut (a ++ (x ++ r)) a.length (a.length+x.length)=x:=by
 unfold cut;rw[Iz,Iz,show a.length=a.cps.toList.length from length_toList.symm,show x.length=x.cps.toList.length from length_toList.symm,List.drop_left,Nat.add_sub_cancel_left,List.take_left]
theorem Arz:∀xs ys:List Str,jn (xs ++ ys)=jn xs ++ jn ys
 |[],ys=>by
  rw[nil_append,Q8];show jn ys=⟨#[] ++ (jn ys).cps⟩;rw[empty_append]
 |x::xs,ys=>by rw[cons_append,G6,G6,Arz xs ys,Bk]
theorem Aw2 {k k':Int}:Mv "place" (.int k') [(("body":Str),W.str B),("place",.int k)]=[(("body":Str),W.str B),("place",.int k')]:=by
 unfold Mv;rw[if_neg (by decide +kernel)]
 unfold Mv;rw[if_pos rfl]
section
variable {ns:List Int} {n k:Nat}
theorem Rx.use (h:Rx n m x w) (eB:B=a ++ (x ++ r)) (hB:B.length<=400) (hS:S[n]?=some (rdr B a.length)) (q:∀S',S'[n]?=some (rdr B (a ++ x).length)->Fr [n] S S'->Q w S'):Wm m S Q:=
 Dr (h B a r S eB hB hS) fun v S' ⟨e,q1,q2⟩=>by subst e;exact q S' q1 q2
theorem Z8 {j:Nat} (h:δ[j]?=some (some w)):Ac j δ S=.ok w S:=by unfold Ac;rw[h];rfl
theorem Agl {j:Nat} (h:δ[j]?=some (some (.ref n))):Pu (Xe P n (rdr B k)) (Xb fld "place" (Ac j) δ) (.int (k:Int)):=fun S hS=>⟨[],by
 unfold Xb;rw[Br,Z8 h];show Ue fld "place" (.ref n) S=_;unfold Ue;dsimp only;rw[hS.2,append_nil];rfl⟩
theorem Aw3 {j:Nat} (h:δ[j]?=some (some (.ref n))):Pu (Xe P n (rdr B k)) (Xb fld "body" (Ac j) δ) (.str B):=fun S hS=>⟨[],by
 unfold Xb;rw[Br,Z8 h];show Ue fld "body" (.ref n) S=_;unfold Ue;dsimp only;rw[hS.2,append_nil];rfl⟩
theorem Ar0 {k':Nat} {h:De->M W} {b':MS} {K:RS->Prop} (h1:Pu (Xe SP.any n (rdr B k)) (h δ) (.int (k':Int))) (hv:δ[0]?=some (some (.ref n))) (hS:S[n]?=some (rdr B k)) (q:∀S',Fr [n] S S'->S'[n]?=some (rdr B k')->Wb b' δ S' K):Wb (Aj (Yo fld "place" (Ac 0) h) b') δ S K:=by
 obtain⟨G,e⟩:=h1 S ⟨trivial,hS⟩;have hS2:(S ++ G)[n]?=some (rdr B k):=Fr.app.at0 hS;refine Np ⟨?_⟩;refine Kc (K:=Hk b' K) ⟨(),(S ++ G).set n (rdr B k'),?_,q _ ?_ (Pb (Ek hS2))⟩
 .rw[Br,e];dsimp only;rw[Br,Z8 hv];dsimp only;unfold Aeq;dsimp only;rw[hS2];show (if _ then R.ok () ((S ++ G).set n (.ins 5 (Mv "place" (.int (k':Int)) [("body",.str B),("place",.int (k:Int))]))) else .bad)=_
  rw[Aw2];exact if_pos rfl
 .exact(Fr.of0 Fr.app).same Fr.set
theorem Ad0 {mt:Nat->Str->Option Fi} {j:Nat} (hv:δ[j]?=some (some (.ref n))) (hS:S[n]?=some (rdr B k)) (hno:∀(B:Str) (k:Int),([(("body":Str),W.str B),("place",.int k)]:List (Str×W)).lookup m=none) (hm:mt 5 m=some i)
  (hg:Wm (gs δ) S fun ws S'=>ws.length+1=i.np/\Wm (i.g (.ref n::ws)) S' Q):Wm (Dk mt m (Ac j) gs δ) S Q:=by
 unfold Dk;refine Dc (Ez hv ?_);refine Dc ⟨i,S,?_,?_⟩
 .unfold Aeu;dsimp only;rw[hS];show (match List.lookup m [(("body":Str),W.str B),("place",.int (k:Int))],mt 5 m with|none,some i=>R.ok i S|_,_=>.bad)=_
  rw[hno,hm]
 .refine Dc (Dr hg fun ws S' ⟨hl,q⟩=>?_);unfold Avk;rw[if_pos hl];exact q
theorem Ra {m:Nat} (hm:x.length=m):Rx n (Ia ns [.ref n,.int (m:Int)]) x (.str x):=fun B a r S eB hB hS=>by
 refine Ks rfl ?_;refine Cj (Oi (Agl (P:=SP.any) rfl) ⟨trivial,hS⟩ fun S1 f1=>?_);have hS1:=f1.at0 hS;refine Ar0 (k':=(a ++ x).length) (Pu.cast (An (Af rfl) (Af rfl) Cr) (by rw[len_app,hm];simp)) rfl hS1 fun S2 f2 hS2=>?_
 have hbb:B.length<=big:=le_trans hB (by decide)
 refine Gd (Oi (a:=.str x) (P:=Xe SP.any n (rdr B (a ++ x).length)) ?_ ⟨trivial,hS2⟩ fun S3 f3=>⟨rfl,f3.at0 hS2,((f1.of0).same f2).then0 f3⟩);refine J8 (Aw3 rfl) (Ed (Af rfl)) (Ed (Agl rfl)) ?_;have hl:B.length=a.length+(x.length+r.length):=by rw[eB,len_app,len_app]
 show Pu _ (if B.length<=big then pure (W.str (Txt.slice B (some (a.length:Int)) (some (((a ++ x).length:Nat):Int)))) else bad) _
 rw[V8 (by rw[len_app];omega) (by rw[len_app];omega),len_app,eB,U8]
 exact G8 (by rw[<-eB];exact hbb) Pu.pure
theorem Nb {k:Nat} {i:Int} (h1:1<=k) (h2:k<=3) (hi:0<=i) (hk:i < 64 ^ k):Rx n (Hm ns [.ref n,.int (k:Int)]) (M1.Bu k i) (.int i):=fun B a r S eB hB hS=>by
 refine Ks rfl ?_;refine Gd (Ey (Az ?_));refine Ad0 rfl hS (fun _ _=>rfl) rfl ?_;refine Az (Ez rfl (Do ⟨rfl,?_⟩));refine(Ra (ns:=ns) (Bj k i)).use eB hB hS fun S1 hS1 f1=>?_;refine Do ?_;exact Be (Ab6 h1 h2 hi hk) fun S2 f2=>⟨rfl,f2.at0 hS1,f1.then0 f2⟩
theorem Ad1 {β:Type} {xs:List β} {τ:β->Str} {φ:β->W} (hl:xs.length<=100) (he:∀x∈xs,∀d,Rx n (e [some d,some (.ref n)]) (τ x) (φ x)) :
  Rx n (Ae (Et ns) (Aa (Df 1 [0] (Om Hw (Aa (Ac 1) nilF)) (Cu 0) (fun _=>pure true) e) nilF) [some (.ref n),some (.int (xs.length:Int))]) (jn (xs.map τ)) (.tup (xs.map φ)):=fun B a r S eB hB hS=>by
 have hbig:xs.length<=big:=le_trans hl (by decide)
 refine Ey (Az ?_);refine Ade (P:=SP.any) (Ig (k:=xs.length) (Ab (Af rfl) Ag) hbig) trivial fun S' f0=>?_;refine Yy (J:=fun i δ acc T=>i<=xs.length/\acc=(xs.take i).map φ/\(∃d,δ=[d,some (.ref n)])/\T[n]?=some (rdr B (a ++ jn ((xs.take i).map τ)).length)/\Fr [n] S T) ?_ ?_ ?_
 .rintro i w δ acc T hw ⟨hi,rfl,⟨d,rfl⟩,hT,fT⟩;have hlt:i < xs.length:=by
   have z:=(List.getElem?_eq_some_iff.mp hw).1
   rwa [length_map,length_range] at z
  have hx:xs.take (i+1)=xs.take i ++ [xs[i]]:=(List.take_append_getElem hlt).symm;refine⟨[some w,some (.ref n)],rfl,Ju ?_⟩;rw[if_pos rfl];have eB2:B=(a ++ jn ((xs.take i).map τ)) ++ (τ xs[i] ++ (jn ((xs.drop (i+1)).map τ) ++ r)):=by
   have z:xs.map τ=(xs.take i).map τ ++ (τ xs[i]::(xs.drop (i+1)).map τ):=by
    rw[<-map_cons,<-map_append,List.getElem_cons_drop,List.take_append_drop]
   rw[eB,z,Arz,G6,Bk,Bk,Bk]
  refine(he xs[i] (getElem_mem hlt) w).use eB2 hB hT fun T2 hT2 fT2=>?_;refine⟨?_,hlt,?_,⟨_,rfl⟩,?_,fT.same fT2⟩
  .rw[length_map,length_take];exact Nat.lt_of_le_of_lt (le_trans (Nat.min_le_right _ _) hl) (by decide)
  .rw[hx,map_append];rfl
  .rw[hx,map_append,map_cons,map_nil,Xq,<-Bk];exact hT2
 .rintro δ acc T ⟨_,rfl,_,hT,fT⟩;simp only[length_map,length_range,take_length] at hT ⊢
  refine⟨hbig,?_⟩;refine Do ?_;refine Vk J2 ⟨rfl,Fr.app.at0 hT,fT.then0 Fr.app⟩
 .exact⟨zero_le _,rfl,⟨none,rfl⟩,by rw[List.take_zero,map_nil,Q8,Dh];exact f0.at0 hS,f0.of0⟩
end
section
variable {ns:List Int} {n:Nat}
theorem Ad2 {kk nn:Nat} (hl:ws.length=kk) (h:Rx n (f (Bw nn ws)) x w):Rx n (Ck kk nn (Aj (retS f) b') ws) x w:=fun B a r S eB hB hS=>Ks hl (Gd (h B a r S eB hB hS))
theorem G7 {mt:Nat->Str->Option Fi} {j:Nat} {np:Nat} (hv:δ[j]?=some (some (.ref n))) (hno:∀(B:Str) (k:Int),([(("body":Str),W.str B),("place",.int k)]:List (Str×W)).lookup m=none) (hm:mt 5 m=some ⟨g,np,dv⟩) (hg:Pu SP.any (gs δ) ws) (hl:ws.length+1=np)
  (h:Rx n (g (.ref n::ws)) x w):Rx n (Dk mt m (Ac j) gs δ) x w:=fun B a r S eB hB hS=>
 Ad0 hv hS hno hm (Be hg fun S' f=>⟨hl,h.use eB hB (f.at0 hS) fun S2 h2 f2=>⟨rfl,h2,f.of0.same f2⟩⟩)
theorem U9 {mt:Nat->Str->Option Fi} {j:Nat} {np:Nat} (hv:δ[j]?=some (some (.ref n))) (hno:∀(B:Str) (k:Int),([(("body":Str),W.str B),("place",.int k)]:List (Str×W)).lookup m=none) (hm:mt 5 m=some ⟨g,np,dv⟩) (hl:2=np)
  (h1:Rx n (f δ) x1 u) (h2:Rx n (g [.ref n,u]) x2 w):Rx n (Dk mt m (Ac j) (Aa f nilF) δ) (x1 ++ x2) w:=fun B a r S eB hB hS=>by
 refine Ad0 hv hS hno hm (Az ?_);rw[Bk] at eB;refine h1.use eB hB hS fun S1 hS1 f1=>?_;refine Do ⟨hl,?_⟩;refine h2.use (by rw[eB,<-Bk]) hB hS1 fun S2 hS2 f2=>⟨rfl,?_,f1.same f2⟩
 rw[<-Bk];exact hS2
theorem Akk {is:List Int} (h:∀i∈is,0<=i/\i < 4096) (hl:is.length<=100):Rx n (Ep ns [.ref n,.int (is.length:Int)]) (Ho is) (.tup (is.map W.int)):=
 Ad2 rfl (Ad1 hl fun i hi d=>G7 rfl (fun _ _=>rfl) rfl (Ab Ai Ag) rfl (Nb (k:=2) (by decide) (by decide) (h i hi).1 (h i hi).2))
theorem Bfn (h:isKey k=true):k.length<=12:=by
 unfold isKey at h;simp only[and_eq_true,decide_eq_true_eq] at h;exact h.2.2
theorem Ar1 (h:isKey k=true):Rx n (Jh ns [.ref n]) (Gr k) (.str k):=by
 have hb:=Bfn h;exact Ad2 rfl (U9 rfl (fun _ _=>rfl) rfl rfl (G7 rfl (fun _ _=>rfl) rfl (Ab Ai Ag) rfl (Nb (k:=1) (i:=(k.length:Int)) (by decide) (by decide) (by omega) (by omega))) (Ra rfl))
theorem Aw4 {ks:List Str} (h:∀k∈ks,isKey k=true) (hl:ks.length<=100):Rx n (Fq ns [.ref n,.int (ks.length:Int)]) (jn (ks.map Gr)) (.tup (ks.map W.str)):=
 Ad2 rfl (Ad1 hl fun k hk d=>G7 rfl (fun _ _=>rfl) rfl Ag rfl (Ar1 (h k hk)))
theorem Aw5 {c:Cl} (hc:c.ok=true):Rx n (Im ns [.ref n]) c.t c.w:=fun B a r S eB hB hS=>by
 have sgn:∀z:Str,z.length=1->Rx n (Dk (fun c n=>(Bg ns).lookup (c,n)) "next_signs" (Ac 0) (Aa (kF (.int 1)) nilF) (Bw 1 [.ref n])) z (.str z):=fun z hz=>G7 rfl (fun _ _=>rfl) rfl (Ab Ai Ag) rfl (Ra (m:=1) hz);cases c with
 |inn t=>
  have ht:t.length<=63:=by
   unfold Cl.ok at hc;rw[and_eq_true,decide_eq_true_eq] at hc;exact hc.2
  have e0:Cl.t (.inn t)=("i":Str) ++ (M1.Bu 1 t.length ++ t):=Bk _ _ _;rw[e0] at eB ⊢
  rw[Bk] at eB;refine Ks rfl ?_;refine J3 (Aj2 (p:=true) (Aqx ?_));refine(sgn ("i":Str) (by decide +kernel)).use eB hB hS fun S1 hS1 f1=>?_
  refine Ib (Be (Fo.cast (congrArg W.bl (by decide +kernel))) fun S2 f2=>⟨rfl,rfl,?_⟩)
  refine Gd (Kr (Az (Ib (Az ?_))));have hr:Rx n (Dk (fun c n=>(Bg ns).lookup (c,n)) "next_signs" (Ac 0) (Aa (Dk (fun c n=>(Bg ns).lookup (c,n)) "next_number" (Ac 0) (Aa (kF (.int 1)) nilF)) nilF) (Bw 1 [.ref n])) (M1.Bu 1 t.length ++ t) (.str t):=
   U9 rfl (fun _ _=>rfl) rfl rfl (G7 rfl (fun _ _=>rfl) rfl (Ab Ai Ag) rfl (Nb (k:=1) (i:=(t.length:Int)) (by decide) (by decide) (by omega) (by omega))) (Ra rfl)
  refine hr.use (by rw[eB,<-Bk]) hB (f2.at0 hS1) fun S3 hS3 f3=>?_
  refine Do ⟨show 2<=big by decide,rfl,?_,(f1.then0 f2).same f3⟩
  rw[<-Bk];exact hS3
 |out i p=>
  have hb:∀j∈[i,p],0<=j/\j < 4096:=by
   unfold Cl.ok Gq at hc;simp only[and_eq_true,decide_eq_true_eq] at hc;intro j hj;simp only[mem_cons,not_mem_nil,or_false] at hj;rcases hj with rfl|rfl <;> omega
  have e0:Cl.t (.out i p)=("o":Str) ++ Ho [i,p]:=rfl;rw[e0] at eB ⊢
  rw[Bk] at eB;refine Ks rfl ?_;refine Gu (Aj2 (p:=false) (Aqx ?_));refine(sgn ("o":Str) (by decide +kernel)).use eB hB hS fun S1 hS1 f1=>?_
  refine Ib (Be (Fo.cast (congrArg W.bl (by decide +kernel))) fun S2 f2=>⟨rfl,rfl,?_⟩)
  refine Gd (Jm (Kr (Az (Ib (Do ⟨show 1<=big by decide,?_⟩)))))
  have hr:Rx n (Dk (fun c n=>(Bg ns).lookup (c,n)) "next_numbers" (Ac 0) (Aa (kF (.int 2)) nilF) (Bw 1 [.ref n])) (Ho [i,p]) (.tup [.int i,.int p]):=by
   have h2:=Akk (n:=n) (ns:=ns) (is:=[i,p]) hb (Nat.le_of_ble_eq_true rfl);simp only[length_cons,length_nil,Nat.zero_add,Nat.reduceAdd,map_cons,map_nil,Int.cast_ofNat_Int] at h2;exact G7 rfl (fun _ _=>rfl) rfl (Ab Ai Ag) rfl h2
  refine hr.use (by rw[eB,<-Bk]) hB (f2.at0 hS1) fun S3 hS3 f3=>?_
  refine⟨.tup [.str "out",.int i,.int p],S3,rfl,rfl,?_,(f1.then0 f2).same f3⟩;rw[<-Bk];exact hS3
theorem Bcd (hk:isKey z.1=true) (hc:z.2.ok=true):Rx n (Jj ns [.ref n]) (Jd z) (Ob z):=fun B a r S eB hB hS=>by
 unfold Jd at eB ⊢
 rw[Bk] at eB;refine Ks rfl ?_;have h1:Rx n (Dk (fun c n=>(Di ns).lookup (c,n)) "next_key" (Ac 0) nilF (Bw 2 [.ref n])) (Gr z.1) (.str z.1):=G7 rfl (fun _ _=>rfl) rfl Ag rfl (Ar1 hk);refine Cj (h1.use eB hB hS fun S1 hS1 f1=>?_);have h2:Rx n (Dk (fun c n=>(Di ns).lookup (c,n)) "next_cell" (Ac 0) nilF ((Bw 2 [.ref n]).set 1 (some (.str z.1)))) z.2.t z.2.w:=G7 rfl (fun _ _=>rfl) rfl Ag rfl (Aw5 hc);refine Gd (Kr (Az (Ez rfl (Az ?_))));refine h2.use (by rw[eB,<-Bk]) hB hS1 fun S2 hS2 f2=>?_
 refine Do ⟨show 2<=big by decide,rfl,?_,f1.same f2⟩
 rw[<-Bk];exact hS2
theorem Aw6 {rs:List (Str×Cl)} (h:∀z∈rs,isKey z.1=true/\z.2.ok=true) (hl:rs.length<=100):Rx n (Fx ns [.ref n,.int (rs.length:Int)]) (jn (rs.map Jd)) (.tup (rs.map Ob)):=
 Ad2 rfl (Ad1 hl fun z hz d=>G7 rfl (fun _ _=>rfl) rfl Ag rfl (Bcd (h z hz).1 (h z hz).2))
end
theorem Ad3 (x:Str):(⟨#[]⟩:Str) ++ x=x:=by
 show (⟨#[] ++ x.cps⟩:Str)=x;rw[empty_append]
theorem Bce (h:D.Fr [] S S'):∃G,S'=S ++ G:=by
 refine⟨S'.drop S.length,?_⟩;apply List.ext_getElem?;intro i;by_cases hi:i < S.length
 .rw[getElem?_append_left hi,h.get i hi (fun z=>nomatch z)]
 .rw[getElem?_append_right (by omega),List.getElem?_drop,Nat.add_sub_cancel' (by omega)]
theorem Ar2 {n:Nat} (h:D.Fr [n] S S') (hn:S.length<=n):D.Fr [] S S':=⟨h.len,fun i hi _=>h.get i hi fun z=>by
 have:=mem_singleton.mp z;omega⟩
section
variable {ns:List Int} {n:Nat}
theorem Ar3 (h:∀S,P.p S->Wm m S fun v S'=>v=w/\D.Fr [] S S'):Pu P m w:=fun S hS=>by
 obtain⟨v,S',e,rfl,f⟩:=h S hS;obtain⟨G,rfl⟩:=Bce f;exact⟨G,e⟩
theorem Akl {f:Str} {c:Nat} {fs:List (Str×W)} {v:W} {h:De->M W} {b':MS} {K:RS->Prop} (h1:h δ S=.ok v S) (hv:δ[0]?=some (some (.ref n))) (hS:S[n]?=some (.ins c fs)) (hok:fld false c f=true) (hl:fs.length < 1000) (q:Wb b' δ (S.set n (.ins c (Mv f v fs))) K) :
  Wb (Aj (Yo fld f (Ac 0) h) b') δ S K:=by
 refine Np ⟨?_⟩;refine Kc (K:=Hk b' K) ⟨(),S.set n (.ins c (Mv f v fs)),?_,q⟩;rw[Br,h1];dsimp only;rw[Br,Z8 hv];dsimp only;unfold Aeq;dsimp only;rw[hS];exact if_pos (by rw[hok,decide_eq_true hl];rfl)
theorem Ar4:Mv "body" v []=[(("body":Str),v)]:=rfl
theorem Anb:Mv "place" u [(("body":Str),v)]=[(("body":Str),v),("place",u)]:=by
 unfold Mv;rw[if_neg (by decide +kernel)]
 rfl
theorem Aw7 (q:∀S',D.Fr [] S S'->S'[S.length]?=some (rdr B 0)->Q (.ref S.length) S'):Wm (Wi 5 (Gf ns) [.str B]) S Q:=by
 have h0:(S ++ [Cell.ins 5 []])[S.length]?=some (.ins 5 []):=J2;have l0:=Ek h0;unfold Wi;refine Dc ⟨.ref S.length,S ++ [.ins 5 []],rfl,?_⟩;refine Dc (Ks rfl ?_);refine Akl (v:=.str B) (Z8 rfl) rfl h0 (by decide +kernel) (by decide) ?_
 rw[Ar4];refine Akl (v:=.int 0) rfl rfl (Pb l0) (by decide +kernel) (show 1 < 1000 by decide) ?_
 rw[Anb];refine Gy (Ju (q _ ?_ (Pb (by rw[length_set];exact l0))))
 exact Ar2 (((Fr.app.of0 (L:=[S.length])).same Fr.set).same Fr.set) (le_refl _)
theorem read0 {k:Nat} (h:Rx n m x w) (eB:B=x ++ r) (hB:B.length<=400) (hk:k=0) (hS:S[n]?=some (rdr B k)) (q:∀S',S'[n]?=some (rdr B x.length)->D.Fr [n] S S'->Q w S'):Wm m S Q:=by
 subst hk;refine h.use (a:=⟨#[]⟩) (r:=r) (by rw[Ad3];exact eB) hB hS fun S' h1 h2=>q S' ?_ h2
 rw[Ad3] at h1;exact h1
abbrev mtR (ns:List Int):Nat->Str->Option Fi:=fun c n=>(Ad ns).lookup (c,n)
theorem Akm {i:Int} (hv:δ[2]?=some (some (.ref n))) (h0:0<=i) (h1:i < 64):Rx n (Dk (mtR ns) "next_number" (Ac 2) (Aa (kF (.int 1)) nilF) δ) (M1.Bu 1 i) (.int i):=G7 hv (fun _ _=>rfl) rfl (Ab Ai Ag) rfl (Nb (k:=1) (by decide) (by decide) h0 h1)
theorem Aw8 {i:Int} (hv:δ[2]?=some (some (.ref n))) (h0:0<=i) (h1:i < 4096):Rx n (Dk (mtR ns) "next_number" (Ac 2) (Aa (kF (.int 2)) nilF) δ) (M1.Bu 2 i) (.int i):=G7 hv (fun _ _=>rfl) rfl (Ab Ai Ag) rfl (Nb (k:=2) (by decide) (by decide) h0 h1)
theorem Ad4 {is:List Int} (hv:δ[2]?=some (some (.ref n))) (hf:Pu SP.any (f δ) (.int (is.length:Int))) (h:∀i∈is,0<=i/\i < 4096) (hl:is.length<=100):Rx n (Dk (mtR ns) "next_numbers" (Ac 2) (Aa f nilF) δ) (Ho is) (.tup (is.map W.int)):=
 G7 (g:=Ep ns) hv (fun _ _=>rfl) rfl (Ab hf Ag) rfl (Akk (n:=n) (ns:=ns) (is:=is) h hl)
theorem Ar5 (hv:δ[2]?=some (some (.ref n))) (hf:Pu SP.any (f δ) (.int (x.length:Int))):Rx n (Dk (mtR ns) "next_signs" (Ac 2) (Aa f nilF) δ) x (.str x):=G7 hv (fun _ _=>rfl) rfl (Ab hf Ag) rfl (Ra rfl)
theorem Aw9 {rs:List (Str×Cl)} (hv:δ[2]?=some (some (.ref n))) (h:∀z∈rs,isKey z.1=true/\z.2.ok=true) (hl:rs.length<=63):Rx n (Dk (mtR ns) "next_rows" (Ac 2) (Aa (Dk (mtR ns) "next_number" (Ac 2) (Aa (kF (.int 1)) nilF)) nilF) δ) (M1.Bu 1 rs.length ++ jn (rs.map Jd)) (.tup (rs.map Ob)):=
 U9 (g:=Fx ns) hv (fun _ _=>rfl) rfl rfl (Akm hv (by omega) (by omega)) (Aw6 (n:=n) (ns:=ns) (rs:=rs) h (by omega))
theorem Axa {ks:List Str} (hv:δ[2]?=some (some (.ref n))) (h:∀k∈ks,isKey k=true) (hl:ks.length<=63):Rx n (Dk (mtR ns) "next_keys" (Ac 2) (Aa (Dk (mtR ns) "next_number" (Ac 2) (Aa (kF (.int 1)) nilF)) nilF) δ) (M1.Bu 1 ks.length ++ jn (ks.map Gr)) (.tup (ks.map W.str)):=
 U9 (g:=Fq ns) hv (fun _ _=>rfl) rfl rfl (Akm hv (by omega) (by omega)) (Aw4 (n:=n) (ns:=ns) (ks:=ks) h (by omega))
theorem Axb {p:Pg} (h:p.ok) (hb:p.body.length<=400):Pu P (Qc ns [.str p.letter,.str p.body]) p.w:=Ar3 fun S _=>by
 have ff:∀{S1 S2:Store},D.Fr [] S S1->D.Fr [S.length] S1 S2->D.Fr [] S S2:=fun f1 f2=>Ar2 ((f1.of0).same f2) (le_refl _);refine Ks rfl ?_;refine Cj (Ey (Az (Ez rfl (Do ?_))));refine Aw7 fun S1 f1 hS1=>?_;cases p with
 |head a b c d=>
  have hn:∀i∈[a,b,c,d],0<=i/\i < 4096:=by
   obtain⟨h1,h2,h3,h4⟩:=h;intro i hi;simp only[mem_cons,not_mem_nil,or_false] at hi;rcases hi with rfl|rfl|rfl|rfl
   .exact Eb h1 (by decide)
   .exact Eb h2 (by decide)
   .exact Eb h3 (by decide)
   .exact Eb h4 (by decide)
  refine J3 (Be ((Al (Ar (Af rfl) Ai Fo)).cast (by kernel_rfl)) fun S2 f2=>⟨rfl,?_⟩)
  refine Gd (Jm (Kr (Az (Ib (Do ⟨show 1<=big by decide,?_⟩)))))
  refine read0 (r:=⟨#[]⟩) (Ad4 (ns:=ns) (is:=[a,b,c,d]) rfl (Pu.cast Ai rfl) hn (Nat.le_of_ble_eq_true rfl)) (Dh _).symm hb rfl (f2.at0 hS1) fun S3 hS3 f3=>?_;exact⟨.tup [.str "head",.int a,.int b,.int c,.int d],S3,rfl,rfl,ff (f1.then0 f2) f3⟩
 |free i=>
  have hn:∀j∈[i],0<=j/\j < 4096:=by
   intro j hj;rw[mem_singleton.mp hj];exact Eb h (by decide)
  refine Gu (Be ((Al (Ar (Af rfl) Ai Fo)).cast (by kernel_rfl)) fun S2 f2=>⟨rfl,?_⟩)
  refine Gu (Be ((Al (Ar (Af rfl) Ai Fo)).cast (by kernel_rfl)) fun S3 f3=>⟨rfl,?_⟩)
  refine Gu (Be ((Al (Ar (Af rfl) Ai Fo)).cast (by kernel_rfl)) fun S4 f4=>⟨rfl,?_⟩)
  refine Gu (Be ((Al (Ar (Af rfl) Ai Fo)).cast (by kernel_rfl)) fun S5 f5=>⟨rfl,?_⟩)
  refine J3 (Be ((Al (Ar (Af rfl) Ai Fo)).cast (by kernel_rfl)) fun S6 f6=>⟨rfl,?_⟩)
  have f26:=((((f2.then0 f3).then0 f4).then0 f5).then0 f6);refine Gd (Jm (Kr (Az (Ib (Do ⟨show 1<=big by decide,?_⟩)))))
  refine read0 (r:=⟨#[]⟩) (Ad4 (ns:=ns) (is:=[i]) rfl (Pu.cast Ai rfl) hn (Nat.le_of_ble_eq_true rfl)) (Dh _).symm hb rfl (f26.at0 hS1) fun S3 hS3 f3=>?_;exact⟨.tup [.str "free",.int i],S3,rfl,rfl,ff (f1.then0 f26) f3⟩
 |leaf rs=>
  refine Gu (Be ((Al (Ar (Af rfl) Ai Fo)).cast (by kernel_rfl)) fun S2 f2=>⟨rfl,?_⟩)
  refine J3 (Be ((Al (Ar (Af rfl) Ai Fo)).cast (by kernel_rfl)) fun S3 f3=>⟨rfl,?_⟩)
  refine Gd (Kr (Az (Ib (Az ?_))));have hl:rs.length<=63:=h.1;refine read0 (r:=⟨#[]⟩) (Aw9 (ns:=ns) rfl (fun z hz=>h.2.1 z hz) hl) (Dh _).symm hb rfl ((f2.then0 f3).at0 hS1) fun S4 hS4 f4=>?_;exact Do ⟨show 2<=big by decide,rfl,ff (f1.then0 (f2.then0 f3)) f4⟩
 |fork ks ps=>
  obtain⟨⟨h1,h2,h3⟩,h4,h5⟩:=h;refine Gu (Be ((Al (Ar (Af rfl) Ai Fo)).cast (by kernel_rfl)) fun S2 f2=>⟨rfl,?_⟩)
  refine Gu (Be ((Al (Ar (Af rfl) Ai Fo)).cast (by kernel_rfl)) fun S3 f3=>⟨rfl,?_⟩)
  refine J3 (Be ((Al (Ar (Af rfl) Ai Fo)).cast (by kernel_rfl)) fun S4 f4=>⟨rfl,?_⟩)
  have f24:=(f2.then0 f3).then0 f4;refine Cj ?_;refine read0 (r:=Ho ps) (Axa (ns:=ns) rfl h2 h1) rfl hb rfl (f24.at0 hS1) fun S5 hS5 f5=>?_;refine Gd (Kr (Az (Ib (Az (Ez rfl (Az ?_))))));refine(Ad4 (ns:=ns) (is:=ps) rfl ((An (Ah (Ab (Af rfl) Ag) Es) Ai Cr).cast (congrArg W.int (show ((ks.map W.str).length:Int)+1=(ps.length:Int) by rw[length_map,h4];rfl))) (fun i hi=>Eb (h5 i hi) (by decide)) (by omega)).use (a:=M1.Bu 1 ks.length ++ jn (ks.map Gr)) (r:=⟨#[]⟩) (by rw[Dh];rfl) hb hS5 fun S6 hS6 f6=>?_
  exact Do ⟨show 3<=big by decide,rfl,ff (f1.then0 f24) (f5.same f6)⟩
 |rest t i=>
  obtain⟨h1,h2,h3,h4⟩:=h;have hi:=Eb h4 (by decide)
  have eb:Pg.body (.rest t i)=M1.Bu 2 i ++ t:=by
   show jn [M1.Bu 2 i] ++ t=_;rw[G6,Q8,Dh]
  refine Gu (Be ((Al (Ar (Af rfl) Ai Fo)).cast (by kernel_rfl)) fun S2 f2=>⟨rfl,?_⟩)
  refine Gu (Be ((Al (Ar (Af rfl) Ai Fo)).cast (by kernel_rfl)) fun S3 f3=>⟨rfl,?_⟩)
  refine Gu (Be ((Al (Ar (Af rfl) Ai Fo)).cast (by kernel_rfl)) fun S4 f4=>⟨rfl,?_⟩)
  refine J3 (Be ((Al (Ar (Af rfl) Ai Fo)).cast (by kernel_rfl)) fun S5 f5=>⟨rfl,?_⟩)
  have f25:=((f2.then0 f3).then0 f4).then0 f5;refine Cj ?_;refine read0 (r:=t) (Aw8 (ns:=ns) rfl hi.1 hi.2) eb hb rfl (f25.at0 hS1) fun S6 hS6 f6=>?_;refine Gd (Kr (Az (Ib (Az ?_))));have hl:(Pg.body (.rest t i)).length=2+t.length:=by rw[eb,len_app,Bj]
  refine(Ar5 (ns:=ns) (x:=t) rfl ((An (Ah (Ab (Af rfl) Ag) (len_str (le_trans hb (by decide)))) Ai Gn).cast (congrArg W.int (show ((Pg.body (.rest t i)).length:Int) - 2=((t.length:Nat):Int) by omega)))).use (a:=M1.Bu 2 i) (r:=⟨#[]⟩) (by rw[Dh];exact eb) hb hS6 fun S7 hS7 f7=>?_
  exact Az (Ez rfl (Do ⟨show 3<=big by decide,rfl,ff (f1.then0 f25) (f6.same f7)⟩))
end
theorem Anc (h:2<=z.length):Txt.slice z none (some (-2))=cut z 0 (z.length - 2):=by
 have q:=eq_of_beq (PyProof.Rows.slice_closes_to_neg (x:=z) (j:=-2) (k:=-2+z.length) (by decide) (by omega) rfl)
 rw[q];unfold cut;rw[show ((-2:Int)+z.length - 0).toNat=z.length - 2 - 0 by omega]
 rfl
theorem Ane (h:2<=z.length):Txt.slice z (some (-2)) none=cut z (z.length - 2) z.length:=by
 have q:=eq_of_beq (PyProof.Rows.slice_closes_from_neg (x:=z) (i:=-2) (a:=-2+z.length) (b:=z.length) (by decide) (by omega) rfl rfl)
 rw[q];unfold cut;rw[show ((-2:Int)+z.length).toNat=z.length - 2 by omega,show ((z.length:Int) - (-2+z.length)).toNat=z.length - (z.length - 2) by omega]
theorem Ain {i:Nat} (h:i<=z.length):Txt.slice z (some (i:Int)) none=cut z i z.length:=by
 have q:=eq_of_beq (PyProof.Rows.slice_closes_fromL (x:=z) (i:=(i:Int)) (b:=z.length) (by omega) (by omega) rfl)
 rw[q];unfold cut;rw[toNat_natCast,show ((z.length:Int) - i).toNat=z.length - i by omega]
theorem Ab7 (a r:Str):cut (a ++ r) 0 a.length=a:=by
 have h:=U8 ⟨#[]⟩ a r;rw[Ad3] at h;show cut (a ++ r) 0 a.length=a;have e:(⟨#[]⟩:Str).length=0:=rfl;rw[e,Nat.zero_add] at h;exact h
theorem Akn (a r:Str):cut (a ++ r) a.length (a ++ r).length=r:=by
 have h:=U8 a r ⟨#[]⟩;rw[Dh] at h;rw[len_app];exact h
section
variable {ns:List Int}
theorem Aio (h:Pu P (f δ) (.str z)) (h2:2<=z.length) (hz:z.length<=big):Pu P (slF ns f Bs (Cg (Xc (kF (.int 2)))) δ) (.str (cut z 0 (z.length - 2))):=by
 refine J8 h Ej (Ed (Aro Ai)) ?_;show Pu P (if z.length<=big then pure (W.str (Txt.slice z none (some (-2)))) else bad) _
 rw[Anc h2];exact G8 hz Pu.pure
theorem Ar6 (h:Pu P (f δ) (.str z)) (h2:2<=z.length) (hz:z.length<=big):Pu P (slF ns f (Cg (Xc (kF (.int 2)))) Bs δ) (.str (cut z (z.length - 2) z.length)):=by
 refine J8 h (Ed (Aro Ai)) Ej ?_;show Pu P (if z.length<=big then pure (W.str (Txt.slice z (some (-2)) none)) else bad) _
 rw[Ane h2];exact G8 hz Pu.pure
theorem Ar7 {i j:Nat} (h1:Pu P (f δ) (.str z)) (hi:Pu P (g δ) (.int (i:Int))) (hj:Pu P (h δ) (.int (j:Int))) (l1:i<=j) (l2:j<=z.length) (hz:z.length<=big):Pu P (slF ns f (Cg g) (Cg h) δ) (.str (cut z i j)):=by
 refine J8 h1 (Ed hi) (Ed hj) ?_;show Pu P (if z.length<=big then pure (W.str (Txt.slice z (some (i:Int)) (some (j:Int)))) else bad) _
 rw[V8 l1 l2];exact G8 hz Pu.pure
theorem Agm (h2:2<=z.length) (hz:z.length<=big) (ht:M2.Dw (cut z 0 (z.length - 2))=true):Pu P (Ir ns [.str z]) (.bl (M2.check (cut z 0 (z.length - 2))==cut z (z.length - 2) z.length)):=by
 apply Bq (ws:=[.str z]) rfl;apply Bp;apply Bb;exact Ar (Ah (Ab (Aio (Af rfl) h2 hz) Ag) (Agb (by rw[Lx (zero_le _) (by omega)];omega) ht)) (Ar6 (Af rfl) h2 hz) Fo
theorem Agn (h:PuN P b δ δ'):PuN P (Al1 b) δ δ':=fun S hS=>by
 obtain⟨G,e⟩:=h S hS;exact⟨G,by unfold Al1;rw[e]⟩
theorem Ar8:Pu P (M6 ns [.non]) (.bl false):=fun S _=>⟨[],by rw[append_nil];kernel_rfl⟩
theorem Axc (h2:2<=z.length) (hz:z.length<=big) (ht:M2.Dw (cut z 0 (z.length - 2))=true) (hn:M2.check (cut z 0 (z.length - 2))≠cut z (z.length - 2) z.length):Pu P (Iu ns [.str z]) .non:=by
 apply Bq (ws:=[.str z]) rfl;refine Bp (Nk (Cz (Al (Ah (Ab (Af rfl) Ag) (Agm h2 hz ht)))) ?_ (Bp (Bb Ai)));rw[beq_eq_false_iff_ne.mpr hn];rfl
theorem Ako (ht:M2.Dw (cut z 0 (z.length - 2))=true) (h0:2<=z.length) (hz:z.length<=1000) (hn:M2.check (cut z 0 (z.length - 2))≠cut z (z.length - 2) z.length):PuX P (Dp ns [.str z]) (4,.non):=by
 have hb:z.length<=big:=le_trans hz (by decide)
 apply Ac4 (ws:=[.str z]) rfl;by_cases h:64<=z.length/\z.length<=200
 .apply Bex
  .refine Dz (Em (Cz (Al (Ah (Ab (Af rfl) (Ab Ai Ag)) Rq))) (Cz (Al (Ah (Ab (Ah (Ab (Af rfl) Ag) (len_str hb)) Ag) (U7 _))))) ?_ Av;rw[decide_eq_true (by omega),decide_eq_true (by omega)]
   rfl
  refine Bex (Agn (Mf (Bd (Ah (Ab (Af rfl) Ag) (Axc h0 hb ht hn))) Av)) ?_;exact Wj (Av3 (Cz (Al (Ah (Ab (Af rfl) Ag) Ar8))) rfl (Wj (Nj (Ab Ai (Ab Ai Ag)) rfl)))
 .refine Wj (Av3 (Em (Cz (Al (Ah (Ab (Af rfl) (Ab Ai Ag)) Rq))) (Cz (Al (Ah (Ab (Ah (Ab (Af rfl) Ag) (len_str hb)) Ag) (U7 _))))) ?_ (Wj (Nj (Ab Ai (Ab Ai Ag)) rfl)));rw[or_eq_true];refine .inr ?_;rw[not_eq_true',Bool.and_eq_false_iff,decide_eq_false_iff_not,decide_eq_false_iff_not];omega
theorem Aip (p:Pg):∃c,p.letter=⟨#[c]⟩:=by cases p <;> exact⟨_,rfl⟩
theorem Ar9 {c:Nat} (hz:z.length<=big) (e:z=⟨#[c]⟩ ++ r):Pu P (ixW ns (.str z) (.int 0)) (.str ⟨#[c]⟩):=by
 have hl:0 < z.length:=by rw[e,len_app];exact lt_of_lt_of_le (show 0 < 1 by decide) (le_add_right _ _)
 have h:=Ve (P:=P) (ns:=ns) hz hl;have e2:z.cps.toList.getD 0 0=c:=by rw[e,Iz];rfl
 rw[e2] at h;exact h
theorem text_len {p:Pg} {size:Int} (h1:64<=size) (hb:(p.body.length:Int)<=size - 5):(p.text size).length=size.toNat:=by
 unfold Pg.text;rw[len_app,K4 hb,V6];omega
theorem Ja {p:Pg} {size:Int} (h:p.ok) (h1:64<=size) (h2:size<=200) (hb:(p.body.length:Int)<=size - 5):Pu P (Dp ns [.str (p.text size)]) p.w:=by
 have hl:=text_len h1 hb;have hu:=K4 hb;have hbig:(p.text size).length<=big:=by rw[hl];exact le_trans (show size.toNat<=200 by omega) (by decide)
 have el:((p.text size).length:Int)=size:=by omega
 have c1:cut (p.text size) 0 ((p.text size).length - 2)=p.unch size:=by
  have e:=Ab7 (p.unch size) (M2.check (p.unch size));rw[show (p.text size).length - 2=(p.unch size).length by omega]
  exact e
 have c2:cut (p.text size) ((p.text size).length - 2) (p.text size).length=M2.check (p.unch size):=by
  have e:=Akn (p.unch size) (M2.check (p.unch size));rw[show (p.text size).length - 2=(p.unch size).length by omega]
  exact e
 obtain⟨n,ez⟩:=Akd p size;have eu:p.unch size=p.start ++ ⟨Array.replicate n 48⟩:=by
  show p.unch size=⟨p.start.cps ++ Array.replicate n 48⟩;rw[<-ez]
 have et:p.text size=p.letter ++ (M1.Bu 2 p.body.length ++ (p.body ++ (⟨Array.replicate n 48⟩ ++ M2.check (p.unch size)))):=by
  show p.unch size ++ M2.check (p.unch size)=_;rw[eu];unfold Pg.start;rw[Bk,Bk,Bk]
 obtain⟨c,ec⟩:=Aip p;have c3:cut (p.text size) 1 3=M1.Bu 2 p.body.length:=by
  have e:=U8 p.letter (M1.Bu 2 p.body.length) (p.body ++ (⟨Array.replicate n 48⟩ ++ M2.check (p.unch size)));rw[<-et,Hu,Bj] at e;exact e
 have c4:cut (p.text size) 3 (3+p.body.length)=p.body:=by
  have e:=U8 (p.letter ++ M1.Bu 2 p.body.length) p.body (⟨Array.replicate n 48⟩ ++ M2.check (p.unch size));rw[Bk,<-et,len_app,Hu,Bj] at e;exact e
 have htold:Pu P (Iu ns [.str (p.text size)]) p.w:=by
  apply Bq (ws:=[.str (p.text size)]) rfl;apply Bx
  .refine Dz (Cz (Al (Ah (Ab (Af rfl) Ag) (Agm (by omega) hbig (by rw[c1];exact Xp h size))))) ?_ Av
   rw[c1,c2,beq_self_eq_true];rfl
  .refine Bx (Bd (w:=.int (p.body.length:Int)) (Ah (Ab ((Ar7 (i:=1) (j:=3) (Af rfl) Ai Ai (by decide) (by omega) hbig).cast (by rw[c3])) Ag) (Ab6 (by decide) (by decide) (by omega) (show (p.body.length:Int) < 64 ^ 2 by omega)))) ?_
   refine Bp (Bb (Ah (Ab (Bh (Af rfl) Ai ((Ar9 hbig (et.trans (by rw[ec]))).cast (by rw[ec]))) (Ab ((Ar7 (i:=3) (j:=3+p.body.length) (Af rfl) Ai ((An Ai (Af rfl) Cr).cast (congrArg W.int (by omega))) (by omega) (by omega) hbig).cast (by rw[c4])) Ag)) (Axb h (by omega))))
 apply Bq (ws:=[.str (p.text size)]) rfl;apply Bx
 .refine Dz (Em (Cz (Al (Ah (Ab (Af rfl) (Ab Ai Ag)) Rq))) (Cz (Al (Ah (Ab (Ah (Ab (Af rfl) Ag) (len_str hbig)) Ag) (U7 _))))) ?_ Av;rw[el,decide_eq_true h1,decide_eq_true h2];rfl
 refine Bx (Agn (Mf (Bd (Ah (Ab (Af rfl) Ag) htold)) Av)) ?_;refine Bx (Dz (Cz (Al (Ah (Ab (Af rfl) Ag) (Aka h)))) rfl Av) ?_;apply Bx
 .refine Dz (Al (Ar (Ah (Ab (Af rfl) (Ab (Ah (Ab (Af rfl) Ag) (Akc h)) (Ab ((Ah (Ab (Af rfl) Ag) (len_str hbig)).cast (by rw[el])) Ag))) (Ake (by omega) h1 h2)) ((Aio (Af rfl) (by omega) hbig).cast (by rw[c1])) Ac6)) ?_ Av
  rw[beq_self_eq_true];rfl
 .exact Bp (Bb (Af rfl))
end
section
variable {P:SP} {ns:List Int} {s:List W->M W} {ws:List W} {z:Str} {i:Int} {w x:W}
def plG (ns:List Int) (s:List W->M W):List W->M W:=Ck 1 1 (Aj (ifS (Ay (Ae (Dq isa) (Aa (Ac 0) (Aa (kF (.ty "tuple")) nilF)))) (Aj (retS (Ae Ol (Aa (Df 1 [] (Eh ns (Ac 0)) (Cu 0) (fun _=>pure true) (Ae s (Aa (Ac 0) nilF))) nilF)))
  Am) Am)
 (Aj (retS (orF (Ae (Dq isa) (Aa (Ac 0) (Aa (kF (.ty "str")) nilF))) (Ff (Ae (Dq isa) (Aa (Ac 0) (Aa (kF (.ty "int")) nilF))) (Aae (Ae (Dq isa) (Aa (Ac 0) (Aa (kF (.ty "bool")) nilF)))))))
 Am))
theorem K6 (hl:ws.length<=big) (h:∀u∈ws,Pu P (s [u]) (.bl true)):Pu P (plG ns s [.tup ws]) (.bl true):=by
 apply Bq (ws:=[.tup ws]) rfl;have hc:=Fz (P:=P) (xs:=ws) (φ:=fun u=>u) (ψ:=fun _=>W.bl true) (t:=fun _=>pure true) (e:=Ae s (Aa (Ac 0) nilF)) (cs:=[]) (cap:=[]) (δ:=Bw 1 [.tup ws]) (src:=Eh ns (Ac 0)) (by rw[List.map_id'];exact Gp (Af rfl)) rfl hl (fun u hu=>⟨Pu.pure,Ah (Ab (Af rfl) Ag) (h u hu)⟩)
 refine Bp (Nk (Al (Ah (Ab (Af rfl) (Ab Ai Ag)) Uz)) rfl (Bp (Bb ((Nm (bs:=ws.map fun _=>true) (by rw[map_map];exact hc)).cast ?_))))
 rw[show (ws.map fun _=>true).all id=true from all_eq_true.mpr fun b hb=>by obtain⟨_,_,rfl⟩:=mem_map.mp hb;rfl]
theorem K7:Pu P (plG ns s [.str z]) (.bl true):=fun S _=>⟨[],by rw[append_nil];rfl⟩
theorem Od:Pu P (plG ns s [.int i]) (.bl true):=fun S _=>⟨[],by rw[append_nil];rfl⟩
theorem fa (h1:Pu P (s [x]) (.bl true)) (h2:∀u∈ws,Pu P (s [u]) (.bl true)):∀u∈x::ws,Pu P (s [u]) (.bl true):=List.forall_mem_cons.mpr ⟨h1,h2⟩
theorem fa0:∀u∈([]:List W),Pu P (s [u]) (.bl true):=fun _ h=>nomatch h
theorem Aiq {p:Pg} (h:p.ok):Pu P (Uy ns [p.w]) (.bl true):=by
 show Pu P (plG ns (plG ns (plG ns (plG ns (plG ns (K1 ns))))) [p.w]) _;cases p with
 |head a b c d=>exact K6 (show 5<=big by decide) (fa K7 (fa Od (fa Od (fa Od (fa Od fa0)))))
 |free n=>exact K6 (show 2<=big by decide) (fa K7 (fa Od fa0))
 |rest t n=>exact K6 (show 3<=big by decide) (fa K7 (fa K7 (fa Od fa0)))
 |fork ks ps=>
  obtain⟨⟨h1,h2,h3⟩,h4,h5⟩:=h;refine K6 (show 3<=big by decide) (fa K7 (fa (K6 ?_ fun u hu=>?_) (fa (K6 ?_ fun u hu=>?_) fa0)))
  .rw[length_map];unfold big;omega
  .obtain⟨k,_,rfl⟩:=mem_map.mp hu;exact K7
  .rw[length_map];unfold big;omega
  .obtain⟨k,_,rfl⟩:=mem_map.mp hu;exact Od
 |leaf rs=>
  have hl:rs.length<=63:=h.1;refine K6 (show 2<=big by decide) (fa K7 (fa (K6 (by rw[length_map];unfold big;omega) fun u hu=>?_) fa0))
  obtain⟨⟨k,c⟩,_,rfl⟩:=mem_map.mp hu;refine K6 (show 2<=big by decide) (fa K7 (fa ?_ fa0))
  cases c with
  |inn t=>exact K6 (show 2<=big by decide) (fa K7 (fa K7 fa0))
  |out n p=>exact K6 (show 3<=big by decide) (fa K7 (fa Od (fa Od fa0)))
theorem Asa (h:isa 4 k=some b):Pu P (Dq isa [.exn 4 .non,k]) (.bl b):=fun S _=>⟨[],by
 rw[append_nil];unfold Dq;dsimp only;rw[h];rfl⟩
theorem Bcf {exm:Nat->Bool} {j:Nat} {c:Nat×W} (e:b δ S=.ex c δ1 S1) (hm:exm c.1=true) (h:su (δ1.set j (some (.exn c.1 c.2))) S1=.rt w S2):Al0 exm j b su δ S=.rt w S2:=by
 unfold Al0;rw[e];dsimp only;rw[if_pos hm,h]
theorem Z9 (h:PuX P (Dp ns [w]) (4,.non)):Pu P (Gv ns [w]) (.bl true):=by
 apply Bq (ws:=[w]) rfl;apply Bp;intro S hS;have hx:PuX P (Ae (Dp ns) (Aa (Ac 0) nilF) [some w,none]) (4,.non):=Aqp (Ab (Af rfl) Ag) h;obtain⟨G,e⟩:=hx S hS;have hs:PuR P (Aj (ifS (orT (Ld (Ay (Ae (Dq isa) (Aa (Ac 1) (Aa (kF (.cls 4)) nilF))))) (orT (Ld (Ay (Ae (Dq isa) (Aa (Ac 1) (Aa (kF (.ty "ValueError")) nilF))))) (Ay (Ae (Dq isa) (Aa (Ac 1) (Aa (kF (.cls 2)) nilF)))))) (Aj (retS (kF (.bl false)))
   Am) Am)
  (Aj (retS (Bf .Is (Xb fld "number" (Ac 1)) (kF .non)))
  Am)) [some w,some (.exn 4 .non)] (.bl true):=by
  refine Bx (Dz (Em (Cz (Al (Ah (Ab (Af rfl) (Ab Ai Ag)) (Asa (b:=true) (by kernel_rfl))))) (Em (Cz (Al (Ah (Ab (Af rfl) (Ab Ai Ag)) (Asa (b:=true) (by kernel_rfl))))) (Al (Ah (Ab (Af rfl) (Ab Ai Ag)) (Asa (b:=false) (by kernel_rfl)))))) rfl Av) ?_
  have hn:Pu P (Xb fld "number" (Ac 1) [some w,some (.exn 4 .non)]) .non:=by
   refine Pu.bind (a:=W.exn 4 .non) (Af rfl) ?_;show Pu P (if fld true 4 "number"=true then pure W.non else bad) W.non
   exact G8 (by decide +kernel) Pu.pure
  exact Bp (Bb (Ar hn Ai (show Pu P (pure (W.bl true)) (.bl true) from Pu.pure)))
 obtain⟨G2,e2⟩:=hs (S ++ G) (P.st _ _ hS);refine⟨G ++ G2,?_⟩;rw[<-append_assoc];refine Bcf (c:=(4,.non)) (δ1:=[some w,none]) (S1:=S ++ G) ?_ (by kernel_rfl) e2
 show Aj (Rz (Ae (Dp ns) (Aa (Ac 0) nilF))) Am [some w,none] S=_;unfold Aj Rz Fg;rw[e]
theorem Axd (h:Pu P (t δ) true):Pu P (orT t u δ) true:=h.bind Pu.pure
theorem K8 (h:Pu P (Dq isa [w,.ty "str"]) (.bl false)):PuX P (Dp ns [w]) (4,.non):=
 Ac4 (ws:=[w]) rfl (Wj (Av3 (Axd (Cz (p:=false) (Al (Ah (Ab (Af rfl) (Ab Ai Ag)) h)))) rfl (Wj (Nj (Ab Ai (Ab Ai Ag)) rfl))))
theorem Anf (hz:z.length<=big) (h:¬ (64<=z.length/\z.length<=200)):PuX P (Dp ns [.str z]) (4,.non):=by
 refine Ac4 (ws:=[.str z]) rfl (Wj (Av3 (Em (Cz (Al (Ah (Ab (Af rfl) (Ab Ai Ag)) Rq))) (Cz (Al (Ah (Ab (Ah (Ab (Af rfl) Ag) (len_str hz)) Ag) (U7 _))))) ?_ (Wj (Nj (Ab Ai (Ab Ai Ag)) rfl))));rw[or_eq_true];refine .inr ?_;rw[not_eq_true',Bool.and_eq_false_iff,decide_eq_false_iff_not,decide_eq_false_iff_not];omega
end
abbrev tl (z:Str):List Nat:=z.cps.toList
def mkS (l:List Nat):Str:=⟨l.toArray⟩
theorem Ax5 {l:List Nat} (h:tl x=l):x=mkS l:=by
 subst h;exact(str_list x).symm
theorem Asb (z:Str) (i j:Nat):tl (cut z i j)=((tl z).drop i).take (j - i):=rfl
theorem Hv (z:Str):(tl z).length=z.length:=length_toList
theorem Air (l:List Nat):(mkS l).length=l.length:=size_toArray
theorem Bcg (z:Str) (i j:Nat):(cut z i j).length<=z.length:=by
 rw[<-Hv,Asb,length_take,length_drop,Hv];omega
theorem Bch (z:Str) (j:Nat):tl (cut z 0 j)=(tl z).take j:=rfl
theorem cutE (z:Str) (j:Nat):tl (cut z j z.length)=(tl z).drop j:=by
 rw[Asb,List.take_of_length_le];rw[length_drop,Hv];exact le_refl _
structure Chk (z:Str):Prop where
 tx:M2.Dw z=true
 lo:64<=z.length
 hi:z.length<=200
 eq:M2.check (cut z 0 (z.length - 2))=cut z (z.length - 2) z.length
theorem Chk.ok (h:Chk z) {a:Nat} (ha:a < z.length):M2.okC ((tl z).getD a 0)=true:=M2.Adh h.tx (by rw[Hv];exact ha)
theorem Ab8 {c:Nat} (h:M2.okC c=true):c<=126:=(M2.Aj8.mp h).2.1
theorem Rt {l:List Nat} {a k:Nat} (h:a < k):(l.take k).getD a 0=l.getD a 0:=by
 rw[getD_eq_getElem?_getD,getD_eq_getElem?_getD,List.getElem?_take_of_lt h]
theorem other (h:Chk z) {l:List Nat} (hl:l.length=z.length) (hd:l.drop (z.length - 2)=(tl z).drop (z.length - 2)) (hn:M2.chk (l.take (z.length - 2)) % 4093≠M2.chk ((tl z).take (z.length - 2)) % 4093) :
  M2.check (cut (mkS l) 0 ((mkS l).length - 2))≠cut (mkS l) ((mkS l).length - 2) (mkS l).length:=by
 rw[Air,hl];intro e;have e1:cut (mkS l) (z.length - 2) z.length=cut z (z.length - 2) z.length:=by
  unfold cut;show (⟨((l.drop (z.length - 2)).take _).toArray⟩:Str)=_;rw[hd]
 have h3:=M2.Arb (e.trans (e1.trans h.eq.symm));have t1:(cut (mkS l) 0 (z.length - 2)).cps.toList=l.take (z.length - 2):=rfl;have t2:(cut z 0 (z.length - 2)).cps.toList=(tl z).take (z.length - 2):=rfl;rw[t1,t2] at h3;exact hn h3
theorem Ang (h:Chk z) {a c:Nat} (ha:a+3 < z.length) (hc:M2.okC c=true) (ne:c≠(tl z).getD a 0) :
  M2.check (cut (mkS ((tl z).set a c)) 0 ((mkS ((tl z).set a c)).length - 2))≠cut (mkS ((tl z).set a c)) ((mkS ((tl z).set a c)).length - 2) (mkS ((tl z).set a c)).length:=by
 have hl:=Hv z;have hi:=h.hi;refine other h (by rw[length_set,hl]) (drop_set_of_lt (by omega)) ?_
 rw[take_set];refine M2.Ah1 _ a c (by rw[length_take];omega) (by omega) ?_ (Ab8 hc) ?_
 .rw[Rt (by omega)];exact Ab8 (h.ok (by omega))
 .rw[Rt (by omega)];exact ne
def swp (l:List Nat) (a:Nat):List Nat:=(l.set a (l.getD (a+1) 0)).set (a+1) (l.getD a 0)
theorem Ais (h:Chk z) {a:Nat} (ha:a+3 < z.length) (ne:(tl z).getD a 0≠(tl z).getD (a+1) 0) :
  M2.check (cut (mkS (swp (tl z) a)) 0 ((mkS (swp (tl z) a)).length - 2))≠cut (mkS (swp (tl z) a)) ((mkS (swp (tl z) a)).length - 2) (mkS (swp (tl z) a)).length:=by
 have hl:=Hv z;have hi:=h.hi;refine other h (by unfold swp;rw[length_set,length_set,hl]) (by unfold swp;rw[drop_set_of_lt (by omega),drop_set_of_lt (by omega)]) ?_
 unfold swp;rw[take_set,take_set];have g0:=Rt (l:=tl z) (a:=a) (k:=z.length - 2) (by omega)
 have g1:=Rt (l:=tl z) (a:=a+1) (k:=z.length - 2) (by omega)
 rw[<-g0,<-g1];refine M2.Afh _ a (by rw[length_take];omega) ?_ ?_ ?_
 .rw[g0];exact Ab8 (h.ok (by omega))
 .rw[g1];exact Ab8 (h.ok (by omega))
 .rw[g0,g1];exact ne
theorem Asc {l:List Nat} {a:Nat} (h:a+1 < l.length) (e:l.getD a 0=l.getD (a+1) 0):swp l a=l:=M2.Amf l a e h
theorem Ax6 {l:List Nat} (h:l.all M2.okC=true):M2.Dw (mkS l)=true:=h
def Bci:List Nat:=[32,33,34,35,36,38,39,40,41,42,43,44,45,46,47,58,59,60,61,62,63,64,91,92,93,94,95,96,123,124,125,126,48,49,50,51,52,53,54,55,56,57,97,98,99,100,101,102,103,104,105,106,107,108,109,110,111,112,113,114,115,116,117,118,119,120,121,122,65,66,67,68,69,70,71,72,73,74,75,76,77,78,79,80,81,82,83,84,85,86,87,88,89,90]
theorem Ait:Oc.cps.toList=Bci:=by decide +kernel
theorem Asd:∀c,c < 127->M2.okC c=true->c∈Bci:=by decide +kernel
theorem Aiu:Bci.Nodup:=by decide +kernel
theorem Axe (c:Nat) (h:c < 127) (k:M2.okC c=true):c∈Oc.cps.toList:=by rw[Ait];exact Asd c h k
theorem Anh:Oc.cps.toList.Nodup:=by rw[Ait];exact Aiu
theorem Bfo:Oc.cps.toList.length=94:=by rw[Ait];rfl
theorem Bcj {i j:Int} (h0:0<=i) (h1:i < 94) (h2:0<=j) (h3:j < 94) (ne:i≠j):sgnN i≠sgnN j:=by
 have hl:=Bfo;intro e;unfold sgnN at e;rw[getD_eq_getElem?_getD,getD_eq_getElem?_getD,getElem?_eq_getElem (by omega),getElem?_eq_getElem (by omega)] at e
 have:=(getElem_inj Anh).mp e;omega
section
variable {ns:List Int}
theorem Bck {c:Nat} (h:M2.okC c=true):∃i:Nat,i < 94/\sgnN (i:Int)=c/\Pu P (Nh (.str Oc) [.str ⟨#[c]⟩]) (.int (i:Int)):=by
 obtain⟨i,r,e,h1,h2⟩:=M2.Bb1 Oc c (Axe c (by have:=Ab8 h;omega) h)
 have hi:i < 94:=by
  have h3:=Bfo;rw[length_toList] at h3;omega
 refine⟨i,hi,?_,?_⟩
 .unfold sgnN;rw[toNat_natCast,getD_eq_getElem?_getD,getElem?_toList,h2];rfl
 .show Pu P (match Builtin.Str.occurrences Oc ⟨#[c]⟩ 0 Oc.length 1 with|i::_=>pure (W.int (i:Nat))|[]=>bad) _
  rw[e];exact Pu.pure
theorem Akp:Pu P (Dd ns [.str Oc]) (.int 94):=(len_str (by rw[Iw];decide)).cast (by rw[Iw];rfl)
theorem Ad5 {j:Nat} (hz:z.length<=big) (hj:j < z.length):Pu P (ixW ns (.str z) (.int (j:Int))) (.str ⟨#[(tl z).getD j 0]⟩):=by
 have h:=Ve (P:=P) (ns:=ns) hz hj;rw[zero_add] at h;exact h
theorem Ase {j:Nat} (h:Pu P (f δ) (.str z)) (hj:Pu P (g δ) (.int (j:Int))) (l:j<=z.length) (hz:z.length<=big):Pu P (slF ns f Bs (Cg g) δ) (.str (cut z 0 j)):=by
 refine J8 h Ej (Ed hj) ?_;show Pu P (if z.length<=big then pure (W.str (Txt.slice z none (some (j:Int)))) else bad) _
 rw[Z5 l];exact G8 hz Pu.pure
theorem Asf {j:Nat} (h:Pu P (f δ) (.str z)) (hj:Pu P (g δ) (.int (j:Int))) (l:j<=z.length) (hz:z.length<=big):Pu P (slF ns f (Cg g) Bs δ) (.str (cut z j z.length)):=by
 refine J8 h (Ed hj) Ej ?_;show Pu P (if z.length<=big then pure (W.str (Txt.slice z (some (j:Int)) none)) else bad) _
 rw[Ain l];exact G8 hz Pu.pure
theorem Kf (hx:x.length<=500) (hy:y.length<=500):Pu P (Bop.fn .add (.str x) (.str y)) (.str (x ++ y)):=Ca (le_trans (Nat.add_le_add hx hy) (by decide))
abbrev Ax7 (ns:List Int):MS:=(Aj (Bo 15 (Bf .NotEq (slF ns (Ac 13) (Cg (Xc (kF (.int 2)))) Bs) (Ae (Ij ns) (Aa (slF ns (Ac 13) Bs (Cg (Xc (kF (.int 2))))) nilF))))
  (Aj (ifS (orT (Ay (Ac 15)) (Acv (Ay (Bf .NotEq (Ac 13) (Ac 4))) (Acv (Ay (Bf .NotEq (Ao .mod (Ac 7) (kF (.int 4))) (kF (.int 2)))) (Ay (Bf .Lt (Ac 8) (Ao .sub (Ac 2) (kF (.int 3)))))))) (Aj (Bo 5 (Ff (Ac 5) (Ae (Gv ns) (Aa (Ac 13) nilF))))
   Am) Am)
  Am))
theorem Ad6 {b:Str} {size v:Int} {a:Nat} {x0 x1 x3 x6 x9 x10 x11 x12 x14 x15 x16:Option W} {K:RS->Prop} (tx:M2.Dw b=true) (l2:2<=b.length) (l3:b.length<=1000)
  (hc:b≠z->v % 4≠2->(a:Int) < size - 3->M2.check (cut b 0 (b.length - 2))≠cut b (b.length - 2) b.length)
  (k:∀y S',D.Fr [] S S'->K (.nx [x0,x1,some (.int size),x3,some (.str z),some (.bl true),x6,some (.int v),some (.int (a:Int)),x9,x10,x11,x12,some (.str b),x14,y,x16] S')) :
  Wb (Ax7 ns) [x0,x1,some (.int size),x3,some (.str z),some (.bl true),x6,some (.int v),some (.int (a:Int)),x9,x10,x11,x12,some (.str b),x14,x15,x16] S K:=by
 have hb:b.length<=big:=le_trans l3 (by decide)
 refine Cj (Be (Ar (Ar6 (Af rfl) l2 hb) (Ah (Ab (Aio (Af rfl) l2 hb) Ag) (Ab2 (by rw[Lx (zero_le _) (by omega)];omega) (V9 tx))) Ac6) fun S1 f1=>?_)
 by_cases e:M2.check (cut b 0 (b.length - 2))=cut b (b.length - 2) b.length
 .refine Gu (Be (Em (Al (Af rfl)) (Rm (Al (Ar (Af rfl) (Af rfl) Ac6)) (Rm (Al (Ar (An (Af rfl) Ai (Cd (j:=4) (by decide))) Ai Aqs)) (Al (Ar (Af rfl) (An (Af rfl) Ai Gn) Ul))))) fun S2 f2=>⟨?_,Gy (k _ S2 (f1.then0 f2))⟩)
  rw[e,beq_self_eq_true];cases hx:(!(b==z)&&(!(v % 4==2)&&decide ((a:Int) < size - 3))) with
  |false=>rfl
  |true=>
   rw[and_eq_true,and_eq_true,not_eq_true',not_eq_true',beq_eq_false_iff_ne,beq_eq_false_iff_ne,decide_eq_true_eq] at hx;exact absurd e (hc hx.1 hx.2.1 hx.2.2)
 .refine J3 (Be (Em (Al (Af rfl)) (Rm (Al (Ar (Af rfl) (Af rfl) Ac6)) (Rm (Al (Ar (An (Af rfl) Ai (Cd (j:=4) (by decide))) Ai Aqs)) (Al (Ar (Af rfl) (An (Af rfl) Ai Gn) Ul))))) fun S2 f2=>⟨?_,?_⟩)
  .rw[beq_eq_false_iff_ne.mpr (Ne.symm e)];rfl
  .refine Cj (Be (Cp (Af rfl) (Ah (Ab (Af rfl) Ag) (Z9 (Ako (V9 tx) l2 l3 e)))) fun S3 f3=>Gy ?_);exact Gy (k _ S3 ((f1.then0 f2).then0 f3))
end
section
variable {ns:List Int}
abbrev Bfp (ns:List Int):MS:=(Aj (Bo 8 (Ao .mod (Ao .fdiv (Ac 7) (kF (.int 4))) (Ac 2)))
  (Aj (Bo 9 (Ae (Gz ns) nilF))
  (Aj (Bo 10 (Ao .add (kF (.int 1)) (Ao .mod (Ao .fdiv (Ac 7) (kF (.int 900))) (Ao .sub (Ae (Dd ns) (Aa (Ac 9) nilF)) (kF (.int 1))))))
  (Aj (Bo 11 (Jc .str Nh (Ac 9) (Aa (ixF ns (Ac 4) (Ac 8)) nilF)))
  (Aj (Bo 12 (ixF ns (Ac 9) (Ao .mod (Ao .add (Ac 11) (Ac 10)) (Ae (Dd ns) (Aa (Ac 9) nilF)))))
  (Aj (ifS (Ay (Bf .Eq (Ao .mod (Ac 7) (kF (.int 4))) (kF (.int 1)))) (Aj (Bo 8 (Ae Alv (Aa (Ac 8) (Aa (Ao .sub (Ac 2) (kF (.int 2))) nilF))))
   (Aj (Bo 13 (Ao .add (slF ns (Ac 4) Bs (Cg (Ac 8))) (ixF ns (Ac 4) (Ao .add (Ac 8) (kF (.int 1))))))
   (Aj (Bo 13 (Ao .add (Ac 13) (ixF ns (Ac 4) (Ac 8))))
   (Aj (Bo 13 (Ao .add (Ac 13) (slF ns (Ac 4) (Cg (Ao .add (Ac 8) (kF (.int 2)))) Bs)))
   Am)))) (Aj (ifS (Ay (Bf .Eq (Ao .mod (Ac 7) (kF (.int 4))) (kF (.int 2)))) (Aj (Bo 14 (ixF ns (Oj (Aa (kF (.str "")) (Aa (Ao .add (Ac 12) (ixF ns (Ac 4) (Ac 8))) nilF))) (Ao .mod (Ao .fdiv (Ac 7) (kF (.int 900))) (kF (.int 2)))))
    (Aj (Bo 13 (Ao .add (slF ns (Ac 4) Bs (Cg (Ac 8))) (Ac 14)))
    (Aj (Bo 13 (Ao .add (Ac 13) (slF ns (Ac 4) (Cg (Ao .add (Ac 8) (kF (.int 1)))) Bs)))
    Am))) (Aj (Bo 13 (Ao .add (slF ns (Ac 4) Bs (Cg (Ac 8))) (Ac 12)))
    (Aj (Bo 13 (Ao .add (Ac 13) (slF ns (Ac 4) (Cg (Ao .add (Ac 8) (kF (.int 1)))) Bs)))
    Am)))
   Am))
  (Ax7 ns)))))))
theorem Bcl {i j:Int}:Pu P (Alv [.int i,.int j]) (.int (if j < i then j else i)):=Pu.pure
theorem Jb (c:Nat):(⟨#[c]⟩:Str).length=1:=rfl
theorem Bfq {c:Nat} (h:M2.okC c=true):M2.Dw ⟨#[c]⟩=true:=(Adq c).trans h
theorem Axf {o c:Nat} (ho:M2.okC o=true) (hc:M2.okC c=true) (v:Int):∃m:Str,atI [W.str "",.str (⟨#[o]⟩ ++ ⟨#[c]⟩)] (v / 900 % 2)=some (.str m)/\m.length<=2/\M2.Dw m=true:=by
 have h2:v / 900 % 2=0\/v / 900 % 2=1:=by omega
 rcases h2 with h|h <;> rw[h]
 .exact⟨"",rfl,by decide,by decide +kernel⟩
 .exact⟨⟨#[o]⟩ ++ ⟨#[c]⟩,rfl,by rw[len_app,Jb,Jb];decide,by rw[Fy,Bfq ho,Bfq hc];rfl⟩
theorem Bcm {a c:Nat} (ha:a < z.length):cut z 0 a ++ ⟨#[c]⟩ ++ cut z (a+1) z.length=mkS ((tl z).set a c):=Ax5 (by
 show (cut z 0 a ++ ⟨#[c]⟩ ++ cut z (a+1) z.length).cps.toList=_;rw[Iz,Iz];show tl (cut z 0 a) ++ [c] ++ tl (cut z (a+1) z.length)=_;rw[Bch,cutE,M2.set_list _ _ _ (by rw[Hv];exact ha)])
theorem swap_eq {a:Nat} (ha:a+1 < z.length):cut z 0 a ++ ⟨#[(tl z).getD (a+1) 0]⟩ ++ ⟨#[(tl z).getD a 0]⟩ ++ cut z (a+2) z.length=mkS (swp (tl z) a):=Ax5 (by
 show (cut z 0 a ++ ⟨#[(tl z).getD (a+1) 0]⟩ ++ ⟨#[(tl z).getD a 0]⟩ ++ cut z (a+2) z.length).cps.toList=_;rw[Iz,Iz,Iz];show tl (cut z 0 a) ++ [(tl z).getD (a+1) 0] ++ [(tl z).getD a 0] ++ tl (cut z (a+2) z.length)=_;rw[Bch,cutE,M2.Ame _ _ (by rw[Hv];exact ha)]
 rfl)
theorem Axg {size v:Int} {x0 x1 x3 x6 x8 x9 x10 x11 x12 x13 x14 x15 x16:Option W} {K:RS->Prop} (hz:Chk z) (hs:(z.length:Int)=size)
  (k:∀y8 y9 y10 y11 y12 y13 y14 y15 S',D.Fr [] S S'->K (.nx [x0,x1,some (.int size),x3,some (.str z),some (.bl true),x6,some (.int v),y8,y9,y10,y11,y12,y13,y14,y15,x16] S')) :
  Wb (Bfp ns) [x0,x1,some (.int size),x3,some (.str z),some (.bl true),x6,some (.int v),x8,x9,x10,x11,x12,x13,x14,x15,x16] S K:=by
 have lo:=hz.lo;have hi:=hz.hi;have hb:z.length<=big:=le_trans hi (by decide)
 have e0:=emod_nonneg (v / 4) (show size≠0 by omega)
 have e1:=emod_lt_of_pos (v / 4) (show 0 < size by omega)
 obtain⟨a,ea⟩:∃a:Nat,v / 4 % size=(a:Int):=⟨_,(toNat_of_nonneg e0).symm⟩;rw[ea] at e1;have ha:a < z.length:=by omega
 refine Cj (Be ((An (An (Af rfl) Ai (Dm (by decide) (by decide))) (Af rfl) (Cd (by omega))).cast (congrArg W.int ea)) fun S1 f1=>?_)
 refine Cj (Be (Ah Ag Z4) fun S2 f2=>?_);refine Cj (Be (An Ai (An (An (Af rfl) Ai (Dm (by decide) (by decide))) (An (Ah (Ab (Af rfl) Ag) Akp) Ai Gn) (Cd (by decide))) Cr) fun S3 f3=>?_)
 obtain⟨i,hi1,hi2,hp⟩:=Bck (P:=SP.any) (hz.ok ha);refine Cj (Be (V3 (Af rfl) (Ab (Bh (Af rfl) (Af rfl) (Ad5 hb ha)) Ag) hp) fun S4 f4=>?_);have hm:0<=((i:Int)+(1+v / 900 % (94 - 1))) % 94/\((i:Int)+(1+v / 900 % (94 - 1))) % 94 < 94/\(i:Int)≠((i:Int)+(1+v / 900 % (94 - 1))) % 94:=by omega
 obtain⟨o,eo⟩:∃o,sgnN (((i:Int)+(1+v / 900 % (94 - 1))) % 94)=o:=⟨_,rfl⟩;have ho:M2.okC o=true:=by rw[<-eo];exact Adw hm.1 hm.2.1
 have on:o≠(tl z).getD a 0:=by
  rw[<-eo,<-hi2];exact Ne.symm (Bcj (by omega) (by omega) hm.1 hm.2.1 hm.2.2)
 refine Cj (Be ((Bh (Af rfl) (An (An (Af rfl) (Af rfl) Cr) (Ah (Ab (Af rfl) Ag) Akp) (Cd (by decide))) (Aik hm.1 hm.2.1)).cast (by rw[eo])) fun S5 f5=>?_)
 have f15:=(((f1.then0 f2).then0 f3).then0 f4).then0 f5;clear f1 f2 f3 f4 f5 eo hm hp hi1 hi2;have c1:∀i j,(cut z i j).length<=200:=fun i j=>le_trans (Bcg z i j) hi;by_cases q1:v % 4=1
 .refine J3 (Be (Al (Ar (An (Af rfl) Ai (Cd (j:=4) (by decide))) Ai Ih)) fun S6 f6=>⟨by rw[q1];rfl,?_⟩)
  obtain⟨m,em,hm⟩:∃m:Nat,(if size - 2 < (a:Int) then size - 2 else (a:Int))=(m:Int)/\m+1 < z.length:=by
   by_cases h:size - 2 < (a:Int)
   .rw[if_pos h];exact⟨z.length - 2,by omega,by omega⟩
   .rw[if_neg h];exact⟨a,rfl,by omega⟩
  refine Cj (Be ((Ah (Ab (Af rfl) (Ab (An (Af rfl) Ai Gn) Ag)) Bcl).cast (congrArg W.int em)) fun S7 f7=>?_);refine Cj (Be (An (Ase (Af rfl) (Af rfl) (by omega) hb) (Bh (Af rfl) ((An (Af rfl) Ai Cr).cast (congrArg W.int (show (m:Int)+1=((m+1:Nat):Int) by omega))) (Ad5 hb hm)) (Kf (le_trans (c1 _ _) (by decide)) (by rw[Jb];decide))) fun S8 f8=>?_)
  refine Cj (Be (An (Af rfl) (Bh (Af rfl) (Af rfl) (Ad5 hb (by omega))) (Kf (by rw[len_app,Jb];have:=c1 0 m;omega) (by rw[Jb];decide))) fun S9 f9=>?_)
  refine Cj (Be ((An (Af rfl) (Asf (Af rfl) ((An (Af rfl) Ai Cr).cast (congrArg W.int (show (m:Int)+2=((m+2:Nat):Int) by omega))) (by omega) hb) (Kf (by rw[len_app,len_app,Jb,Jb];have:=c1 0 m;omega) (le_trans (c1 _ _) (by decide)))).cast (congrArg W.str (swap_eq hm))) fun S10 f10=>?_)
  have f610:=((((f15.then0 f6).then0 f7).then0 f8).then0 f9).then0 f10;have hl:(mkS (swp (tl z) m)).length=z.length:=by rw[Air];unfold swp;rw[length_set,length_set,Hv]
  refine Gy (Ad6 (Ax6 ?_) (by omega) (by omega) (fun nb _ h3=>?_) fun y S' f=>k _ _ _ _ _ _ _ _ _ (f610.then0 f))
  .exact M2.Ah2 (M2.Ah2 hz.tx (hz.ok (by omega))) (hz.ok (by omega))
  .refine Ais hz (by omega) fun e=>nb ?_
   rw[Asc (by rw[Hv];exact hm) e]
   exact str_list z
 .refine Aq0 (Be (Al (Ar (An (Af rfl) Ai (Cd (j:=4) (by decide))) Ai Ih)) fun S6 f6=>⟨beq_eq_false_iff_ne.mpr q1,?_⟩)
  by_cases q2:v % 4=2
  .refine J3 (Be (Al (Ar (An (Af rfl) Ai (Cd (j:=4) (by decide))) Ai Ih)) fun S7 f7=>⟨by rw[q2];rfl,?_⟩)
   obtain⟨mo,em,ml,mt⟩:=Axf ho (hz.ok ha) v;refine Cj (Be (V7 (Ab Ai (Ab (An (Af rfl) (Bh (Af rfl) (Af rfl) (Ad5 hb ha)) (Kf (by rw[Jb];decide) (by rw[Jb];decide))) Ag)) (show 2<=big by decide) (An (An (Af rfl) Ai (Dm (by decide) (by decide))) Ai (Cd (by decide))) em) fun S8 f8=>?_)
   refine Cj (Be (An (Ase (Af rfl) (Af rfl) (by omega) hb) (Af rfl) (Kf (le_trans (c1 _ _) (by decide)) (le_trans ml (by decide)))) fun S9 f9=>?_)
   refine Cj (Be (An (Af rfl) (Asf (Af rfl) ((An (Af rfl) Ai Cr).cast (congrArg W.int (show (a:Int)+1=((a+1:Nat):Int) by omega))) (by omega) hb) (Kf (by rw[len_app];have:=c1 0 a;omega) (le_trans (c1 _ _) (by decide)))) fun S10 f10=>?_)
   have f610:=((((f15.then0 f6).then0 f7).then0 f8).then0 f9).then0 f10;have l1:=Lx (z:=z) (i:=0) (j:=a) (by omega) (by omega)
   have l2:=Lx (z:=z) (i:=a+1) (j:=z.length) (by omega) (by omega)
   have hl:(cut z 0 a ++ mo ++ cut z (a+1) z.length).length=a+mo.length+(z.length - (a+1)):=by rw[len_app,len_app,l1,l2,Nat.sub_zero]
   refine Gy (Gy (Ad6 ?_ (by omega) (by omega) (fun _ h2 _=>absurd q2 h2) fun y S' f=>k _ _ _ _ _ _ _ _ _ (f610.then0 f)))
   rw[Fy,Fy,V9 hz.tx,V9 hz.tx,mt];rfl
  .refine Aq0 (Be (Al (Ar (An (Af rfl) Ai (Cd (j:=4) (by decide))) Ai Ih)) fun S7 f7=>⟨beq_eq_false_iff_ne.mpr q2,?_⟩)
   refine Cj (Be (An (Ase (Af rfl) (Af rfl) (by omega) hb) (Af rfl) (Kf (le_trans (c1 _ _) (by decide)) (by rw[Jb];decide))) fun S8 f8=>?_)
   refine Cj (Be ((An (Af rfl) (Asf (Af rfl) ((An (Af rfl) Ai Cr).cast (congrArg W.int (show (a:Int)+1=((a+1:Nat):Int) by omega))) (by omega) hb) (Kf (by rw[len_app,Jb];have:=c1 0 a;omega) (le_trans (c1 _ _) (by decide)))).cast (congrArg W.str (Bcm ha))) fun S9 f9=>?_)
   have f69:=(((f15.then0 f6).then0 f7).then0 f8).then0 f9;have hl:(mkS ((tl z).set a o)).length=z.length:=by rw[Air,length_set,Hv]
   refine Gy (Gy (Ad6 (Ax6 (M2.Ah2 hz.tx ho)) (by omega) (by omega) (fun _ _ h3=>Ang hz (by omega) ho on) fun y S' f=>k _ _ _ _ _ _ _ _ _ (f69.then0 f)))
end
def Flat (S:Store) (n:Nat) (w:W):Prop:=∃d,Jl S n w=some d/\d.canLay0=true/\d.depth<=n
section
variable {n:Nat} {i:Int}
theorem K9 (h:M2.Dw z=true):Flat S n (.str z):=by
 have hs:PyData.canLay0 (.str z)=true:=by
  show z.cps.all (· < 0x110000)=true;rw[<-Array.all_toList,all_eq_true];intro c hc;have:=Ab8 (all_eq_true.mp h c hc);exact decide_eq_true (by omega)
 cases n with
 |zero=>exact⟨_,rfl,hs,zero_le _⟩
 |succ n=>exact⟨_,rfl,hs,zero_le _⟩
theorem Oe:Flat S n (.int i):=by
 cases n with
 |zero=>exact⟨_,rfl,rfl,zero_le _⟩
 |succ n=>exact⟨_,rfl,rfl,zero_le _⟩
theorem Asg:∀{ws:List W},(∀w∈ws,Flat S n w)->∃ds,Ex (Jl S n) ws=some ds/\PyData.canLayAll0 ds=true/\PyData.depthAll ds<=n
 |[],_=>⟨[],rfl,rfl,zero_le _⟩
 |w::ws,h=>by
  obtain⟨d,e,h1,h2⟩:=h w mem_cons_self;obtain⟨ds,e',h3,h4⟩:=Asg (ws:=ws) fun u hu=>h u (mem_cons_of_mem _ hu)
  refine⟨d::ds,?_,?_,?_⟩
  .rw[Ex,e,e'];rfl
  .show (d.canLay0&&PyData.canLayAll0 ds)=true;rw[h1,h3];rfl
  .show max d.depth (PyData.depthAll ds)<=n;exact Nat.max_le.mpr ⟨h2,h4⟩
theorem La (h:∀w∈ws,Flat S n w):Flat S (n+1) (.tup ws):=by
 obtain⟨ds,e,h1,h2⟩:=Asg h;refine⟨.tuple ds,?_,h1,succ_le_succ h2⟩;rw[Jl,e];rfl
theorem fc (h1:Flat S n w) (h2:∀u∈ws,Flat S n u):∀u∈w::ws,Flat S n u:=List.forall_mem_cons.mpr ⟨h1,h2⟩
theorem fc0:∀u∈([]:List W),Flat S n u:=fun _ h=>nomatch h
theorem Ani {p:Pg} (h:p.ok):Flat S 16 p.w:=by
 cases p with
 |head a b c d=>exact La (fc (K9 (by decide +kernel)) (fc Oe (fc Oe (fc Oe (fc Oe fc0)))))
 |free n=>exact La (fc (K9 (by decide +kernel)) (fc Oe fc0))
 |rest t n=>exact La (fc (K9 (by decide +kernel)) (fc (K9 h.1) (fc Oe fc0)))
 |fork ks ps=>
  obtain⟨⟨h1,h2,h3⟩,h4,h5⟩:=h;refine La (fc (K9 (by decide +kernel)) (fc (La fun u hu=>?_) (fc (La fun u hu=>?_) fc0)))
  .obtain⟨k,hk,rfl⟩:=mem_map.mp hu;exact K9 (Z2 (h2 k hk))
  .obtain⟨k,_,rfl⟩:=mem_map.mp hu;exact Oe
 |leaf rs=>
  refine La (fc (K9 (by decide +kernel)) (fc (La fun u hu=>?_) fc0))
  obtain⟨⟨k,c⟩,hk,rfl⟩:=mem_map.mp hu;have hr:=h.2.1 _ hk;refine La (fc (K9 (Z2 hr.1)) (fc ?_ fc0));have hc:c.ok=true:=hr.2;cases c with
  |inn t=>
   have ht:(M2.Dw t&&decide (t.length<=63))=true:=hc;rw[and_eq_true] at ht;exact La (fc (K9 (by decide +kernel)) (fc (K9 ht.1) fc0))
  |out n p=>exact La (fc (K9 (by decide +kernel)) (fc Oe (fc Oe fc0)))
end
section
variable {ns:List Int}
theorem Ash {P:SP} {p:Pg} (neg:Bool) (h:p.ok):Pu P (eqW neg p.w p.w) (.bl (!neg)):=fun S _=>⟨[],by
 obtain⟨d,e,h1,h2⟩:=Ani (S:=S) h;obtain⟨ws,ew⟩:=Adr p;have hs:SeqAt.shaped d=true:=by
  unfold SeqAt.shaped;rw[h1,decide_eq_true (le_trans h2 (by decide))]
  rfl
 have e3:eqW neg p.w p.w S=eqD neg p.w p.w S:=by rw[ew];rfl
 rw[append_nil,e3];unfold eqD;rw[e];dsimp only;rw[if_pos (by rw[hs];rfl),SeqAt.eqv_refl _ (SeqAt.canLay_of_shaped hs)]
 cases neg <;> rfl⟩
theorem Akq {a:Nat}:Pu (Xe SP.any a (.lst us)) (Dq isa [.ref a,.ty "str"]) (.bl false):=fun S hS=>⟨[],by
 have e:S[a]?=some (.lst us):=hS.2;rw[append_nil];unfold Dq tyW;dsimp only;rw[e];rfl⟩
theorem Axh {a:Nat}:Pu (Xe SP.any a (.dct us)) (Dq isa [.ref a,.ty "str"]) (.bl false):=fun S hS=>⟨[],by
 have e:S[a]?=some (.dct us):=hS.2;rw[append_nil];unfold Dq tyW;dsimp only;rw[e];rfl⟩
theorem Axi:("\n":Str).cps.toList=[10]:=by decide +kernel
theorem Axj (hz:Chk z):PuX P (Dp ns [.str (z ++ "\n")]) (4,.non):=by
 have lo:=hz.lo;have hi:=hz.hi;have hb:tl (z ++ "\n")=tl z ++ [10]:=by
  show (z ++ "\n").cps.toList=_;rw[Iz,Axi]
 have hl:(z ++ "\n").length=z.length+1:=by rw[<-Hv,hb,length_append,Hv];rfl
 refine Ako ?_ (by omega) (by omega) ?_
 .show (tl (cut (z ++ "\n") 0 ((z ++ "\n").length - 2))).all M2.okC=true;rw[Bch,hb,hl,List.take_append_of_le_length (by rw[Hv];omega),all_eq_true]
  exact fun c hc=>all_eq_true.mp hz.tx c (List.mem_of_mem_take hc)
 .intro e;have h10:10∈tl (cut (z ++ "\n") ((z ++ "\n").length - 2) (z ++ "\n").length):=by
   rw[cutE,hb,hl,List.drop_append_of_le_length (by rw[Hv];omega)]
   exact mem_append_right _ mem_cons_self
  rw[<-e] at h10;exact absurd (Adz 2 _ 10 h10) (by decide +kernel)
theorem Asi (hz:Chk z) {a b c:Nat} (h1:T[a]?=some (.lst us)) (h2:T[b]?=some (.dct kvs)) (h3:T[c]?=some (.lst vs)) (v:Int) :
  ∃(w:W) (P:SP),atI [W.non,.int 5,.ref a,.bl true,.tup [.str z],.ref b,.str "",.str (z ++ "\n"),.ref c] (v % 9)=some w/\P.p T/\PuX P (Dp ns [w]) (4,.non):=by
 have h9:v % 9=0\/v % 9=1\/v % 9=2\/v % 9=3\/v % 9=4\/v % 9=5\/v % 9=6\/v % 9=7\/v % 9=8:=by omega
 rcases h9 with h|h|h|h|h|h|h|h|h <;> rw[h]
 .exact⟨_,SP.any,rfl,trivial,K8 (fun S _=>⟨[],by rw[append_nil];rfl⟩)⟩
 .exact⟨_,SP.any,rfl,trivial,K8 (fun S _=>⟨[],by rw[append_nil];rfl⟩)⟩
 .exact⟨_,Xe SP.any a _,rfl,⟨trivial,h1⟩,K8 Akq⟩
 .exact⟨_,SP.any,rfl,trivial,K8 (fun S _=>⟨[],by rw[append_nil];rfl⟩)⟩
 .exact⟨_,SP.any,rfl,trivial,K8 (fun S _=>⟨[],by rw[append_nil];rfl⟩)⟩
 .exact⟨_,Xe SP.any b _,rfl,⟨trivial,h2⟩,K8 Axh⟩
 .exact⟨_,SP.any,rfl,trivial,Anf (by decide +kernel) (by decide +kernel)⟩
 .exact⟨_,SP.any,rfl,trivial,Axj hz⟩
 .exact⟨_,Xe SP.any c _,rfl,⟨trivial,h3⟩,K8 Akq⟩
theorem Anj (hl:z.length<=big):PuL P (Aem [.str z]) (chars z):=fun S _=>⟨[.lst (chars z)],S.length,by
 show (if z.length<=big then Ce (chars z) else bad) S=_
 rw[if_pos hl];unfold Ce;rw[if_pos (by unfold chars;rw[length_map,length_toList];exact hl)],by rw[getElem?_append_right (le_refl _),sub_self];rfl,le_refl _⟩
theorem Asj {p:Pg} {size:Int} (h:p.ok) (h1:64<=size) (h2:size<=200) (hb:(p.body.length:Int)<=size - 5):Chk (p.text size):=by
 have hl:=text_len h1 hb;have hu:=K4 hb;refine⟨?_,by omega,by omega,?_⟩
 .unfold Pg.text;rw[Fy,Xp h size];exact Tv 2 _
 .have c1:=Ab7 (p.unch size) (M2.check (p.unch size));have c2:=Akn (p.unch size) (M2.check (p.unch size));have e:(p.text size).length - 2=(p.unch size).length:=by omega
  rw[e];show M2.check (cut (p.unch size ++ M2.check (p.unch size)) 0 (p.unch size).length)=cut (p.unch size ++ M2.check (p.unch size)) (p.unch size).length (p.unch size ++ M2.check (p.unch size)).length;rw[c1,c2]
end
theorem Ank (i j:Int) (hi:0<=i) (hj:0<=j):∃v,atI [W.int 64,.int 200,.int (64+i % 137)] (j % 3)=some (.int v)/\64<=v/\v<=200:=by
 have h5:j % 3=0\/j % 3=1\/j % 3=2:=by omega
 rcases h5 with h|h|h <;> rw[h]
 .exact⟨64,rfl,by omega,by omega⟩
 .exact⟨200,rfl,by omega,by omega⟩
 .exact⟨_,rfl,by omega,by omega⟩
theorem Anl (ns:List Int) (_:ns.length<=63):∃S',Aj9 ns [.scr] []=.ok (.bl true) S':=by
 suffices h:Wm (Aj9 ns [.scr]) [] (fun w _=>w=.bl true) by
  obtain⟨w,S',e,rfl⟩:=h;exact⟨S',e⟩
 refine Ks rfl ?_;refine Cj (f:=Oh [((kF (.str "cells")),(Ac 0)),((kF (.str "at")),(kF (.int 0)))]) ⟨.ref 0,[stD 0],?_,?_⟩
 .have:J1 [] [(.inr "cells",.scr),(.inr "at",.int 0)]=[((.inr "cells":Key),W.scr),(.inr "at",.int 0)]:=by kernel_rfl
  show R.ok (W.ref 0) [Cell.dct (J1 [] [(.inr "cells",.scr),(.inr "at",.int 0)])]=_;rw[this];rfl
 have hT:([stD 0]:Store)[0]?=some (stD 0):=rfl;generalize ([stD 0]:Store)=T at hT;refine Cj (Aqy (Adb ?_));refine Az (Ib (Az (Ib (Az ?_))));refine Jm (Ib (Jm ?_));refine Hq rfl hT (by decide) (by decide) fun a T1 e1 g1 ha=>?_
 refine Ib ?_;refine Be (Cd (j:=137) (by decide)) fun T2 e2=>?_
 refine Be Cr fun T3 e3=>Do ⟨by show 3<=big;decide,?_⟩
 have g3:(T3 ++ [Cell.lst [.int 64,.int 200,.int (64+a % 137)]])[0]?=some (stD (0+1)):=Fr.app.at0 ((e2.then0 e3).at0 g1);have hne:T3.length≠0:=by
  have:=Ek ((e2.then0 e3).at0 g1);omega
 refine Jm ?_;refine Hq rfl g3 (by decide) (by decide) fun b T4 e4 g4 hb=>?_
 refine Ib ?_;refine Be (Cd (j:=3) (by decide)) fun T5 e5=>?_
 obtain⟨size,es,s1,s2⟩:=Ank a b ha hb;refine Ahx (e5.at0 (e4.at1 J2 hne)) es ?_;have g5:=e5.at0 g4;clear e1 e2 e3 e4 g1 g3 hne es;refine Cj (Ey (Az (Ez rfl (Az (Ez rfl (Do (Aw0 s1 s2 g5 (by omega) (by omega) fun pw T6 hp=>?_)))))))
 obtain⟨k6,e6,g6,q1,q2,p,hok,rfl,hb⟩:=hp;refine Cj (Be (Ah (Ab (Af rfl) (Ab (Af rfl) Ag)) (Aij hok s1 s2 hb)) fun T7 e7=>?_);have hz:=Asj hok s1 s2 hb;have htl:((p.text size).length:Int)=size:=by rw[text_len s1 hb];omega
 have hbig:(p.text size).length<=big:=le_trans hz.hi (by decide)
 refine Gu (Be (Em (Al (Ar (Ah (Ab (Af rfl) Ag) (Ja hok s1 s2 hb)) (Af rfl) (Ash true hok))) (Cz (Al (Ah (Ab (Ah (Ab (Af rfl) Ag) (Ja hok s1 s2 hb)) Ag) (Aiq hok))))) fun T8 e8=>⟨rfl,?_⟩);refine Gu (Be (Al (Ar (Ah (Ab (Ah (Ab (Af rfl) (Ab (Af rfl) Ag)) (Ads hok s1 s2 hb)) Ag) (Ja hok s1 s2 hb)) (Af rfl) (Ash true hok))) fun T9 e9=>⟨rfl,?_⟩);refine Cj (Ib ?_);have g9:=((e7.then0 e8).then0 e9).at0 g6;clear e7 e8 e9 g6 e6;have hread:∀{P:SP},Pu P (Dp ns [.str (p.text size)]) p.w:=Ja hok s1 s2 hb;generalize p.text size=z at *
 refine Aq2 (P:=SP.any) (ws:=(List.range 6).map fun(k:Nat)=>W.int ((0:Int)+(k:Int))) (Ig (k:=6) (Ab Ai Ag) (by decide)) trivial fun S1 f1=>?_
 refine Aj6 (J:=fun i δ T=>∃k x6 x7 x8 x9 x10 x11 x12 x13 x14 x15 x16,δ=[some .scr,some (.ref 0),some (.int size),some p.w,some (.str z),some (.bl true),x6,x7,x8,x9,x10,x11,x12,x13,x14,x15,x16]/\T[0]?=some (stD k)/\0<=k/\k<=300+(i:Int)) ?_ ?_ ⟨k6,_,_,_,_,_,_,_,_,_,_,_,rfl,f1.at0 g9,by omega,by omega⟩
 .rintro i w δ T hw ⟨k,x6,x7,x8,x9,x10,x11,x12,x13,x14,x15,x16,rfl,hT,k0,k1⟩;have hi:i < 6:=by
   have:=(List.getElem?_eq_some_iff.mp hw).1;rw[length_map,length_range] at this;exact this
  refine⟨_,rfl,?_⟩;refine Cj (Hq rfl hT k0 (by omega) fun v T1 f1 g1 hv=>?_)
  exact Axg hz htl fun y8 y9 y10 y11 y12 y13 y14 y15 T2 f2=>⟨k+1,_,_,_,_,_,_,_,_,_,_,_,rfl,f2.at0 g1,by omega,by omega⟩
 .rintro δ T ⟨k,x6,x7,x8,x9,x10,x11,x12,x13,x14,x15,x16,rfl,hT,k0,k1⟩;have k2:k<=306:=k1;refine Cj (Aqy (Adb ?_));refine Az (Ib (Az (Ib (Az ?_))));refine Adb (Az (Ez rfl (Do ⟨show 1<=big by decide,?_⟩)))
  refine Az (Ib (Az ?_));refine Kr (Az (Ez rfl (Do ⟨show 1<=big by decide,?_⟩)))
  refine Az (Agg ?_);refine Az (Ib (Az ?_));refine Be (An (Af rfl) Ai (Kf (le_trans hz.hi (by decide)) (by decide +kernel))) fun T1 f1=>?_
  refine Az (Ey (Az (Ez rfl (Do (Bby (P:=SP.any) (Anj hbig) trivial fun c T2 f2 h3 l3=>?_)))));refine Do ⟨show 9<=big by decide,?_⟩
  have h1:(T ++ [Cell.lst [.str z]]:Store)[T.length]?=some (.lst [.str z]):=J2;have h2:(T ++ [Cell.lst [.str z]] ++ [Cell.dct []]:Store)[(T ++ [Cell.lst [.str z]]).length]?=some (.dct []):=J2;have n1:T.length≠0:=ne_of_gt (Ek hT);have n2:(T ++ [Cell.lst [W.str z]]).length≠0:=by rw[length_append];omega
  have n3:c≠0:=by
   have:=Ek (f1.at0 h2);omega
  have g2:=f2.at0 (f1.at0 (Fr.app.at0 (Fr.app.at0 hT):(T ++ [Cell.lst [.str z]] ++ [Cell.dct []]:Store)[0]?=some (stD k)));have n4:T2.length≠0:=ne_of_gt (Ek g2);refine Jm ?_;refine Hq rfl (Fr.app.at0 g2) k0 (by omega) fun v T3 f3 g3 hv=>?_
  refine Ib ?_;refine Be (Cd (j:=9) (by decide)) fun T4 f4=>?_
  have i1:=f4.at0 (f3.at1 (Fr.app.at0 (f2.at0 (f1.at0 (Fr.app.at0 h1)))) n1);have i2:=f4.at0 (f3.at1 (Fr.app.at0 (f2.at0 (f1.at0 h2))) n2);have i3:=f4.at0 (f3.at1 (Fr.app.at0 h3) n3);obtain⟨w,P,ew,hP,hx⟩:=Asi (ns:=ns) hz i1 i2 i3 v;refine Ahx (f4.at0 (f3.at1 J2 n4)) ew ?_;exact Gd (Oi (P:=P) (Cp (Af rfl) (Cp (Ah (Ab (Af rfl) Ag) (Z9 hx)) (Ar (Ah (Ab (Af rfl) Ag) hread) (Af rfl) (Ash false hok)))) hP fun _ _=>rfl)
end K5
open PySem PySem.W PyProof.Rows
set_option maxRecDepth 100000 in
set_option maxHeartbeats 0 in
theorem PySem.Challenge.cw_leafhouse_k05_whole_page_to_text_to_page_holds : PySem.Challenge.rw_leafhouse_k05_whole_page_to_text_to_page.Holds := by
 w_on;o_law;k_head;(case hw=>w_witness2)
 k_fill
 refine D.Aqi (l:=PySem.Challenge.rw_leafhouse_k05_whole_page_to_text_to_page) (k:=120) (x:="_law_script") rfl rfl ⟨fun _=>rfl,by decide,by decide⟩ (fun w h Y=>PySem.W.kIn_of Y) ?F
 case F=>
  intro w mg fa h KX G hmg;refine' K5.Bb2 KX G hmg K5.Anl ?_ ?_ ?_ ?_ ?_ ?_ (D.Dl KX G ?_ ?_ ?_ ?_) (D.Dl KX G ?_ ?_ ?_ ?_) (D.Dl KX G ?_ ?_ ?_ ?_) (D.Dl KX G ?_ ?_ ?_ ?_) (D.Dl KX G ?_ ?_ ?_ ?_) (D.Dl KX G ?_ ?_ ?_ ?_) (D.Dl KX G ?_ ?_ ?_ ?_) (D.Dl KX G ?_ ?_ ?_ ?_) (D.Dl KX G ?_ ?_ ?_ ?_) (D.Dl KX G ?_ ?_ ?_ ?_) (D.Dl KX G ?_ ?_ ?_ ?_) (D.Dl KX G ?_ ?_ ?_ ?_) (D.Dl KX G ?_ ?_ ?_ ?_) (D.Uk ?_ ?_ ?_ ?_ ?_) (D.Uk ?_ ?_ ?_ ?_ ?_) (D.Uk ?_ ?_ ?_ ?_ ?_) (D.Uk ?_ ?_ ?_ ?_ ?_) (D.Uk ?_ ?_ ?_ ?_ ?_) (D.Uk ?_ ?_ ?_ ?_ ?_) (D.Uk ?_ ?_ ?_ ?_ ?_) (D.Uk ?_ ?_ ?_ ?_ ?_) (D.Uk ?_ ?_ ?_ ?_ ?_) (D.Dl KX G ?_ ?_ ?_ ?_) (D.Dl KX G ?_ ?_ ?_ ?_) (D.Dl KX G ?_ ?_ ?_ ?_) (D.Dl KX G ?_ ?_ ?_ ?_) (D.Dl KX G ?_ ?_ ?_ ?_) (D.Dl KX G ?_ ?_ ?_ ?_) (D.Dl KX G ?_ ?_ ?_ ?_) (D.Dl KX G ?_ ?_ ?_ ?_) (D.Dl KX G ?_ ?_ ?_ ?_) (D.Dl KX G ?_ ?_ ?_ ?_) (D.Dl KX G ?_ ?_ ?_ ?_) (D.Dl KX G ?_ ?_ ?_ ?_) ?_ ?_ ?_ ?_ ?_ (D.Dl KX G ?_ ?_ ?_ ?_) (D.Dl KX G ?_ ?_ ?_ ?_) (D.Dl KX G ?_ ?_ ?_ ?_) (D.Dl KX G ?_ ?_ ?_ ?_) (D.Dl KX G ?_ ?_ ?_ ?_) (D.Dl KX G ?_ ?_ ?_ ?_) (D.Dl KX G ?_ ?_ ?_ ?_) (D.Dl KX G ?_ ?_ ?_ ?_) (D.Dl KX G ?_ ?_ ?_ ?_) (D.Dl KX G ?_ ?_ ?_ ?_) (D.Dl KX G ?_ ?_ ?_ ?_) (D.Dl KX G ?_ ?_ ?_ ?_) (D.Dl KX G ?_ ?_ ?_ ?_) (D.Dl KX G ?_ ?_ ?_ ?_) (D.Dl KX G ?_ ?_ ?_ ?_) (D.Dl KX G ?_ ?_ ?_ ?_) (D.Dl KX G ?_ ?_ ?_ ?_) (D.Dl KX G ?_ ?_ ?_ ?_) (D.Dl KX G ?_ ?_ ?_ ?_) ?_ ?_ ?_ ?_ ?_ ?_ ?_ ?_ ?_ ?_ ?_ ?_ ?_ ?_ ?_ ?_ ?_ ?_ ?_ ?_ ?_ ?_ ?_ ?_ ?_ ?_ ?_ ?_ ?_ ?_ ?_ ?_ ?_ ?_ ?_ ?_ ?_ ?_ ?_ ?_ ?_ ?_ ?_ ?_ ?_ ?_ ?_ ?_ ?_ ?_ ?_ ?_ ?_ ?_ ?_ ?_ ?_ ?_ ?_
  all_goals try k_is
  all_goals kernel_rfl
