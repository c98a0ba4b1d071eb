import PyProof.Rows.All
import KE.OsGo
import Open.SpecLaws
import KE.KSortTupG
import PySem.Challenge.RW_jobsched_s01_answers
import PyVbtkad
set_option Elab.async false
set_option linter.all false
set_option maxRecDepth 100000
set_option maxHeartbeats 0
set_option compiler.extract_closed false
set_option compiler.reuse false
set_option bootstrap.genMatcherCode false
set_option genInjectivity false in
set_option genSizeOf false in
structure PySem.W.Fast:Prop where(tw896239598344801917 tw15062127977220616739 tw2259672571474061568 tw10342455970750389890 tw6331431999304432861 tw8122695690928665766 tw13777187281469347942 tw16860917588515726111 tw14904681115217272601 tw13307065042914920193 tw6429771649973162960 tw4015202173357781934 tw2474200967059427378 tw9399754086935153974 tw4562827626845409882 tw14727194681476072466 tw9197174079833555027 tw11384182702204212275 tw17818725268803492186 tw10988312798546598065 tw13810262117814702294 tw5285915839522022235 tw13813548295540068894 tw5449601097390414333 tw1532491051758110099 tw10510019762269167821 tw16149786695300917758 tw14664691819916384248 tw14154597600763967237 tw10698057553749749337 tw7968833095072559221 tw15438627641174518403 tw17592209452093105858 tw17986951261819808105 tw10341888390210383824 tw2228412568605170491 tw3794614879548551346 tw1383625962624193546 tw542563422162235373 tw12408111787983249662 tw12020253756985099128 tw514280064592716601 tw14983609241713479053 tw14538725608371270373 tw8219003486749837733 tw9592300441314626372 tw10474955418446329604 tw2692750590507578028 tw9784134513789038367 tw16217903435359918192 tw18409733938997330561 tw1979317910248211280 tw15577281813014381367 tw17155049476370652306 tw18157406047293677543 tw5000232492035539693 tw9456574344343218679 tw5960047855520388891 tw6124413428159637790 tw8565224436197482051 tw2353497105660221152 tw9620627580092330032 tw8912161614967838395 tw16003985067176294414 tw896878414759379649 tw17852080271459398996 tw14993981098963755598 tw10014227133166792915 tw11766667032028208565 tw16859961878692490766 tw12188032599808994241 tw14611616552423853409 tw6690350156832105676 tw14746253646979254834 tw5694767641087392711 tw5344687154915797982 tw9757595895972200118 tw17267597263503486738 tw4154566356625164522 tw12669407529647801677 tw6216382948874008006 tw140236481695663071 tw2492000799826889573 tw14800370929953404514 tw28018229315631829 tw4189273013823423559 tw16378183091871739711 tw2295934692909999376 tw8297923619242306668 tw14226173905949225808 tw8002303944043701648 tw9806118890596472461 tw11408881796089955267 tw5467331546851215429 tw886431789805957861 tw14196522196718054806 tw8115137120850386438 tw2187251505897268136 tw16132249320637822498 tw2483420100392427323 tw12798174099139212305 tw4849480874435393781 tw8972062959192195235 tw6548459193220583526 tw8428246938381088814 tw416199725167544944 tw1725486776273817318 tw18101783494082082527 tw12147665669636231765 tw1840220198017710270 tw4903002758410956813 tw6472337539984862722 tw8752102160057688731 tw17435391645217708394 tw446995266069924076 tw14341141199694864594 tw4077048163395320219 tw13437419889732721216 tw11429584451438056573 tw3475869608268796686 tw4607425872040536859 tw6557801498797044033 tw8157277791214410489 tw5323657890516693427 tw8212203176049278890 tw11305685865012962721 tw5667099127317398114 tw16636501806038632012 tw7478123994339007903 tw6420159726195949164 tw12269216009862288129 tw13215348057498601715 tw17062427158221528723 tw3592811809046731828 tw3075201292733833056 tw3256386593595896250 tw8924819469995637033 tw866717566613908145 tw11151835277377553703 tw6782663255696616371 tw10648816792666195974 tw7538781388859322016 tw5537553045615171315 tw17680797132471856694 tw9404705873571188630 tw8060666987683057360 tw539538531456391632 tw11076892268299887525 tw3726453103677007866 tw17577329170770402720 tw8222940686941784037 tw5362036446546632119 tw1495895850433845275 tw1630143524128594353 tw12550775161083096063 tw2646887283097553488 tw9947508896943372755 tw5101696844757716304 tw5872530126848033075 tw3713540243193553862 tw15142666989864626641 tw6208910965292489261 tw726351398001015727 tw12468840222048715292 tw2629151800749243262 tw16226643914720891334 tw12884060626414724322 tw4321966507151631593 tw17760279517084355780 tw890339118813698166 tw3801850119919557013 tw15173544498738437827 tw3543459598558145280 tw14760874974797668852 tw16654469307462801742 tw1972164579936704799 tw5010956058597451964 tw4075453323654395381 tw12670982853097334264 tw13484562703626004877 tw13385558918117058561 tw11823594873375168262 tw14172470266813156586 tw3300257896294614128 tw13855379610559885079 tw12843764043397292189 tw2827255003249426055 tw15554417296805563061 tw15235614512728720 tw11212356425047092601 tw11907897558876765624 tw2570914705882880060 tw9969077435446430640 tw6248682570935725439 tw14847308668706973960 tw15590096980072825465 tw342955593883510523 tw11738243743197964597 tw694261584828832409 tw10282777137419654623 tw6046103115902281144 tw14866173558876709219 tw13462424878891718212 tw12528533614272120300 tw2768188642542392010 tw8047209995159408440 tw15925456577456769635 tw10159399881129095643 tw819570635367399668 tw6327569006664949090 tw11525993766095887173 tw13861969467909019144 tw1378205811072252300 tw15254633091992210921 tw15895094517606616290 tw506581581156960101 tw4148791974856025906 tw15240619367488684849 tw2135409205425526673 tw12459912946257978736 tw17464319187374939960 tw8854124680347422732 tw18095796173783872564 tw628631919661052299 tw16873086082458093902 tw6060609690816243450 tw4290864757253303354 tw18418582437962087742 tw12738610918357793766 tw1205604411410820431 tw991626836265849350 tw18094105663378112561 tw14329579894275425762 tw9320515035125037321 tw12652081859355081885 tw14961746396406840608 tw14833712730911297017 tw8498532028676091811 tw13953587524928339648 tw17214186515701724070 tw7867829370405329436 tw11373181179767321252 tw2527701527901579348 tw9860861378791804195 tw17883462748017686043 tw5874822333441161849 tw17351735930882485243 tw10624116801336726872 tw17348111734160510231 tw2480015634913765671 tw14607143338591219252 tw8899516883271353254 tw2399617604181995578 tw5487717013928043313 tw4436474186459923750 tw2789304352393801511 tw13946496683202179788 tw4323258101793500111 tw3042748168174471775 tw13519031799517361783 tw8431482922422412695 tw1599053048872161195 tw4683681711962371626 tw15289973176327117614 tw7405476570675247113 tw8432719020341155521 tw7046044490832178742 tw15702583709834301711 tw8331849164307833061 tw10576836333797772347 tw14564479935002850509 tw6702445572142316249 tw16626521671886133394 tw9630203353718772412 tw10161179621583223854 tw13913613514976480042 tw1956260828630720203 tw16728255500844073214 tw4953865588907285216 tw14553807712399142462 tw16784745622988905711 tw2078950565319712143 tw4859391219904099992 tw16086907953836968628 tw11266997524610791606 tw2455152089536381482 tw3365755272349913518 tw15166322114958858414 tw1932143949324165434 tw5496849259710009554 tw9461873434466728008 tw3303267245142563540 tw17260811203177919210 tw13055953723892786844 tw1342123614928995077 tw16120054744476736488 tw14592624751514493413 tw18328257000508772394 tw17518593693041627797 tw7424060955962978353 tw13135312941875745310 tw14454166528178196959 tw4493901809537577575 tw14170518179582410385 tw9113380124883318265 tw12382822922155266910 tw17137270108147033825 tw7873823757921102712 tw13367945306605744095 tw3953844824629472508 tw13622603851894308203 tw9402243437249704421 tw5892134785273998893 tw7933485763601977624 tw10738824910133788610 tw15402603294489630176 tw9615563845995560447 tw11513857634932158529 tw12768989823518198380 tw17410218998227585676 tw16721508838639397229 tw2084650752826471497 tw6522051377940421278 tw2403389108928632939 tw5002640475654186023 tw6469784823511061222 tw16756451883985382160 tw6945566481307383155 tw8422229294311615681 tw15685335758407661847 tw3681537716864247207 tw384561282630992784 tw4547051000311932777 tw11317637306720784765 tw3239113980409921550 tw4309217394794523951 tw3215387988796971590 tw7480016910919988345 tw10861573186032746274 tw14842496431369740429 tw4490611911172417597 tw8285278889055680438 tw3992765435912101610 tw12330612334027959195 tw18003772858949239459 tw18310463660012746435 tw7592715696027808041 tw10741264400317747893 tw4313010194945074917 tw14577027041581768965 tw16329417801752510502 tw6858818405166986180 tw13160504802963445071 tw13394580363473044415 tw5289818103960998278 tw5832305185047221409 tw5622701340561072331 tw9433028549170029634 tw2244103112122482387 tw6125853113672642322 tw14935467056822913822 tw16746677531222629524 tw14391293386007564604 tw10888863842102328177 tw12461081396071149458 tw17483705464198625004 tw17292613610259460706 tw11824586356888161845 tw8374155422468719031 tw211337195705725219 tw5217270863462422736 tw209982475168477708 tw11962351593759143498 tw4026147355466621588 tw13831308528885131752 tw17817366049700826239 tw9536688357841153863 tw3641951560692057861 tw17590705303994421779 tw1142673529048489019 tw17590876675597686902 tw16955839230299176341 tw561727478393794602 tw13669536469129627823 tw6798380500665416597 tw12099505692703838030 tw6128106870883400570 tw3671519592330383864 tw10958628066121416707 tw3413562391247869565 tw12549542988036985293 tw13421457143807847188 tw258204147387103276 tw3676754643040562684 tw14782755387869428366 tw17318462890700432884 tw3520257249291928256 tw15214748959534726111 tw10519837036962490867 tw463774138113389760 tw5145961792505161948 tw7851241192964146256 tw4307115940973712385 tw16753820520455620202 tw9510108024173832781 tw16723463757517087524 tw10510056951384868246 tw5438652380644606353 tw5725222548895626118 tw2386784164831690217 tw14801369171006070438 tw6030501089693204938 tw2080317491765294665 tw14647417624928369756 tw1000662321505670351 tw1207101557538958131 tw11564986514327137767 tw14849461344987154502 tw17963105932079019327 tw17916429707943930468 tw12431713363859531893 tw12572141291099187346 tw15861351967447197489 tw12711370620221189069 tw9003107776662980439 tw14819390147424179368 tw7050804516273991350 tw12887044766017154078 tw15227483606004533461 tw13343918040275786880 tw4480162626587320490 tw4512776594637900181 tw8159993647027272844 tw13757698761724263525 tw354308444213283272 tw2595618661548880785 tw4483904966330829159 tw3985964047577975286 tw974857170775804354 tw6056707288978253535 tw866652123128751154 tw8733291241859026926 tw16309811473084048462 tw16822532161544500889 tw1417338464948945970 tw17339309145561079191 tw16298917771340976007 tw6128145076113358165 tw9848817304349107530 tw443766864951011646 tw17334828202450815106 tw12297992134047619483 tw15752536640612570366 tw14903569129155370506 tw6542358382571353910 tw87601786513091389 tw13813618637161013713 tw7485256538410118956 tw11095110211248682772 tw14441679199631801671 tw1607123104830579860 tw3919386906821981792 tw18293242582946804979 tw7212858340449540239 tw9116068151291705539 tw13674586047789940208 tw1826576844605153386 tw8995945545434573385 tw11489344026974618541 tw18146532975450069615 tw14859695947638507448 tw15565715512253457277 tw9104974531708491489 tw17678831435119133177 tw11509013576261040710 tw7921390202802761869 tw17170472223608059050 tw6105849179199505303 tw6278996535519779258 tw2466311954974566718 tw8319933024895762948 tw2931988195819169919 tw14963028359598502718 tw8908233856664302321 tw3249397887889303278 tw16864618592142003386 tw3270257207059953099 tw287299124023874762 tw16925712312323332580 tw2869065659524454656 tw13348088958985639553 tw3049343062529576306 tw10345075266393484897 tw16247296448383209268 tw4684226298888400098 tw2694234056635809718 tw14022695629967993375 tw5498123283257192965 tw1835071406663858368 tw9977182230042388008 tw14782954611325821827 tw10792498714594961201 tw4334401890000744311 tw247591363613054380 tw5994696166404524948 tw18383651708701053236 tw6607644564249050058 tw5037459499596335280 tw4804111812005502284 tw15042883488752021643 tw6084841979344569690 tw4860023922305330110 tw3647752791723578311 tw8186657734068701312 tw7181997581385953548 tw2144661209622563809 tw12691943906506702946 tw16248296213531012650 tw14243238205550065757 tw17691633702590694504 tw9796564346219866840 tw5634867526602368427 tw3382625519597670723 tw523537741815420091 tw4548300405975405348 tw1070438729232803039 tw18105302477358141223 tw9919008367099125623 tw6408400580700104982 tw2576523973992343609 tw5702276774652866934 tw4171853373547519906 tw18031968618487185184 tw11898673842065290130 tw7374399212775623666 tw8739830900816887780 tw1205274952441263945 tw15499940227032437249 tw9381626543082597023 tw3433779192033484610 tw4545961482378311905 tw6851275008772768644 tw18400553757987027518 tw4906484309439969231 tw4561898282857576226 tw1998347030407657756 tw4699756791338806529 tw4734895289157585001 tw10090030838351865110 tw14284835775768690865 tw16053306600634468012 tw16682895059504647277 tw10295913840692754127 tw13444670453868202053 tw1915925776726481438 tw8255277752353900283 tw6229817132586351632 tw3655705818945931793 tw17604482065379873290 tw18073898193381586223 tw8737599933303070863 tw16279288168775177219 tw17397653436517662659 tw12747814925858328940 tw14689541978594310382 tw14261769069557060686 tw14703100239697439463 tw447263597446747957 tw12903330217458380548 tw1546806297415031771 tw14617222483516278133 tw6968137755033780318 tw18367749455379333440 tw12960429369202013873 tw3300454383303005205 tw8356303796347215682 tw1293241653719404408 tw13397656573267042932 tw5233118043267047457 tw9972681490609642005 tw17659185236578331656 tw9646623106273453227 tw4635989785427082552 tw8535803893964050539 tw8171798328758944481 tw13769103115541136327 tw15541240446876304647 tw7476452910721959123 tw13367274342830030513 tw8278001386518606062 tw4884199854448574 tw7220529860990300233 tw16902440903046159558 tw12727641955093265886 tw9331231397406362311 tw5206261509915126563 tw6880980288501444468 tw14571165188834989974 tw9304451534382375720 tw16607193741793207195 tw15831126876759372255 tw9317495090193701157 tw8919978131948313185 tw11205608169257636508 tw17980500129456985241 tw3238445694619138142 tw8949853181751564097 tw14219159868682941630 tw17658959251048325594 tw7414254361261656259 tw9950792792127014553 tw7007286002206832825 tw1717767836212652739 tw1467881925912835984 tw13366278800048369731 tw16958584882072311536 tw14608279470134153675 tw2595585439558603231 tw1719895430356276633 tw6575520176995025181 tw14061609134260724683 tw11161164713144168021 tw8760152093665844161 tw17338325484393633139 tw12740759652641322565 tw15805137534098808535 tw13547939009206843870 tw7943549864190904611 tw6405511729158686954 tw11153475782318119604 tw14736888041290939073 tw10294118229990073760 tw977512076041815475 tw2950685276103557050 tw14520296925931582552 tw7164969610272591079 tw11180800956215176064 tw17187875760726034783 tw14387916025512776202 tw11853640710764476214 tw12770481643036789091 tw14074196154385387334 tw4046790133079468173 tw1416189444401192986 tw11401859456886640639 tw2613278874822506459 tw15433366417846715934 tw13053770412826190925 tw6148498323302512570 tw16109456028575089023 tw643336161829623379 tw12681666616541194006 tw8080008513338510535 tw4039707410889071942 tw172746767574481773 tw14958820412457663293 tw772564365185477556 tw256976265262469064 tw5567106445376129283 tw14560624547652848805 tw13034982811429478159 tw15779231459743154856 tw13956191218907399338 tw10842938092177581297 tw547895379624588593 tw16051030151491357612 tw9387514328989991554 tw2107523057676978006 tw11066385474520676512 tw3721919958574915784 tw11481637867367846703 tw15127105006835628225 tw16203965252921439515 tw6631347999910079877 tw3374319085511977134 tw5616944519116614237 tw16615150188913437886 tw14334995849660946996 tw2941924889016668590 tw13567515925198824819 tw5459702643516471331 tw11692469974320434101 tw10297410513487048360 tw9689729476882780088 tw1891733041441978011 tw15771247859494662083 tw16412085850373738351 tw2400638427578300857 tw3419001889969749887 tw740290905518256060:True)
local macro_rules|`(tactic|o_law)=>`(tactic|skip)
local macro_rules|`(tactic|k_head)=>`(tactic|k_headS)
local macro_rules|`(tactic|w_witness2)=>`(tactic|exact ⟨[.list [.int 7]],by decide +kernel,by decide +kernel⟩)
open PySem PySem.W PyProof.Rows in
open_top hd for PySem.Challenge.rw_jobsched_s01_answers
open Array renaming forIn_toList->Zq,getElem?_eq_getElem->Zl,length_toList->zH,toList->X2
open Bool renaming and_assoc->zm,and_comm->aam,and_eq_true->bq,and_eq_true_iff->Lo,and_false->BG,and_true->kq,eq_iff_iff->kH,false_and->KC,false_eq_true->v6,false_ne_true->iH,noConfusion->kf,not_eq_true'->GA,or_eq_true->lc,or_false->Yv,true_and->Uj
open Classical renaming byContradiction->p6
open False renaming elim->jZ
open ForInStep renaming yield->BN
open Iff renaming rfl->UC
open Int renaming fdiv_eq_ediv_of_nonneg->acp,le_trans->abk,lt_irrefl->aal,natCast_add->aaj,natCast_ediv->aak,natCast_emod->TV,ofNat_le->aaA,toNat_natCast->k9,toNat_of_nonneg->rS,zero_add->NI
open List renaming all_cons->Lb,all_eq_false->TW,all_eq_true->fG,all_map->ua,any_cons->YB,any_eq_true->Hw,append_assoc->Gq,append_cancel_left->abF,append_nil->tZ,cons_append->TY,drop_append_of_le_length->aa2,drop_drop->GK,drop_of_length_le->Ui,drop_zero->aa0,eq_nil_of_length_eq_zero->aaF,ext_getElem->kn,ext_getElem?->Ct,filterMap_cons->Bp,filterMap_map->NE,filter_append->ND,filter_congr->B6,filter_cons->gZ,filter_eq_nil_iff->Lq,filter_filter->TU,filter_map->mw,filter_nil->Y3,filter_sublist->Ha,find?_eq_none->Ug,findSome?_cons->aaS,flatMap->aa3,flatMap_append->GD,flatMap_cons->UI,flatMap_def->abg,flatten_cons->Lc,foldl->S3,foldl_append->MF,foldl_cons->qO,forIn_cons->v4,forIn_nil->ub,forall_mem_cons->sv,getD_eq_getElem?_getD->aG,getElem?_append_left->Gi,getElem?_append_right->Gh,getElem?_drop->GI,getElem?_eq_getElem->ay,getElem?_eq_none->v5,getElem?_eq_some_iff->gM,getElem?_map->aT,getElem?_mapIdx->ux,getElem?_range->CS,getElem?_set_ne->o9,getElem?_set_self->qF,getElem?_take_of_lt->SX,getElem?_zip_eq_some->GJ,getElem_inj->abY,getElem_map->fW,getElem_mapIdx->aan,getElem_mem->gH,getElem_of_mem->gG,getElem_range->mM,getElem_set->Ue,getElem_take->Z7,getElem_zip->CM,getLast?_eq_getElem?->TX,getLastD_eq_getLast?->aaG,length->nA,length_append->dc,length_cons->iI,length_drop->mj,length_filter_le->G6,length_map->ak,length_mapIdx->MU,length_nil->S1,length_pos_iff->Mw,length_range->ko,length_set->i8,length_take->k7,length_take_le'->T_,length_zip->GG,lookup->pF,lookup_cons->qS,map->MB,map_append->dZ,map_congr_left->gu,map_cons->dW,map_drop->C1,map_id'->abj,map_id->uq,map_map->bB,map_nil->vW,map_set->G9,map_take->Hu,mem_append->kX,mem_append_left->Py,mem_append_right->ij,mem_cons->eB,mem_cons_of_mem->ff,mem_cons_self->fM,mem_filter->ii,mem_filterMap->acn,mem_map->cY,mem_map_of_mem->Nv,mem_of_getElem?->cH,mem_range->gB,mem_singleton->cW,nil_append->t_,nodup_append->Ub,nodup_cons->mi,nodup_nil->Ua,nodup_range->y_,of_mem_zip->K4,pairwise_cons->pL,pairwise_iff_getElem->Zk,pairwise_lt_range->aaU,pairwise_map->Zj,range->bf,range_succ->uA,range_succ_eq_map->S4,replicate->k6,replicate_succ->Gp,set_eq_of_length_le->MJ,size_toArray->cV,take_add_one->mz,take_append_drop->UE,take_append_of_le_length->aa1,take_length->km,take_of_length_le->nG,zipIdx_cons->LU,zipIdx_nil->LV,zip_cons_cons->Gj,zip_map'->Mr
open List.Pairwise renaming filter->adT,imp->adR,nil->Y4,sublist->adQ
open List.Perm renaming refl->TJ
open List.cons renaming inj->Tc
open Nat renaming add_comm->YH,add_div_right->aaY,add_le_add_left->Zf,add_mul->Hg,add_zero->Hy,div_add_mod->Nw,div_eq_of_lt->Uf,div_le_self->NH,eq_of_mul_eq_mul_left->aae,eq_zero_or_pos->aaf,gcd->eW,gcd_comm->aaI,gcd_pos_of_pos_right->aad,lcm->HG,le_add_right->pK,le_div_iff_mul_le->NA,le_of_eq->Gc,le_of_lt->Ie,le_of_lt_succ->Uh,le_of_not_lt->Hz,le_of_succ_le->Lj,le_refl->ci,le_succ->t8,le_trans->fB,lt_irrefl->vI,lt_of_le_of_lt->li,lt_of_lt_of_le->iY,lt_succ_of_le->aaT,lt_succ_of_lt->Lk,lt_succ_self->KQ,lt_trans->aaO,min_eq_left->CZ,min_eq_right->aaK,min_le_right->Z0,min_self->Ly,mod_lt->TZ,mul_add->ML,mul_assoc->CD,mul_comm->j9,mul_div_cancel->aah,mul_div_cancel_left->zb,mul_le_mul_right->aaX,mul_left_comm->aag,mul_mod_right->aaW,mul_right_comm->MP,mul_zero->TR,ne_of_gt->zK,ne_of_lt->jj,not_lt_zero->zk,one_mul->MO,sub_self->Dd,sub_zero->aa4,succ_ne_self->S6,succ_pos->aaQ,zero_add->LN,zero_le->ia,zero_mul->aaZ
open Ne renaming symm->qb
open Option renaming getD_none->Yz,isSome_none->ZG
open Option.some renaming inj->cT
open Or renaming inl->aH,inr->Gu
open Prod renaming snd->mK
open PyFlat renaming call->abu,calls->zz,played->Dt,row->UD,told->Ds
open PyProof renaming noPylong_small->acq
open PyProof.Rows renaming AllBare->Ic,Constant_bool->XZ,IntsAre->i7,KK->B5,SortedToK->To,boot_range->X_,callWith_kw->Tl,callWith_type1->PQ,get?_update_seq->yU,iadd_int->acf,isub_int->acg,itemOrd->ue,kws_cons->B4,kws_nil->GO,lexLt->GP,listOrd->LF,listUpdate_at->LK,lt_int->Yb,rowOf->yV,sameKey->Zi,size_push'->GN,subscriptTail_builtinR->Ys,tupItems->Tn
open PyProof.Rows.G renaming tupC_ltAt->adL,tupKeyC->lm,tupKindC->adH,wpS_sortRunsSt->adK
open PyProof.Rows.G.KeepsTups renaming refl->adM
open PyProof.Rows.G.TupsOf renaming length->adJ
open PyProof.Rows.KeyOrd renaming kle_refl->adI
open PyProof.Rows.SortSt renaming mk'->Zp
open PyProof.Rows.Stable renaming refl->adN
open PySem renaming Addr->MY,Arguments->nB,Around->cw,BindsTo->Ge,CmpOp->D9,Fin->GS,FuncData->bp,IsPair->cD,IsRangeIter->Vc,Keyword->KZ,Meets->BA,Model->Ih,NameKind->gn,Operator->Ky,Paired->Kl,Params->v9,Program->dz,Result->Bw,Scope->fz,Shared->ap,TriplesOk->Td,Value->aq,Within->XN,World->c9,ZipApart->rf,boot_len->eX,call_meets->Le,codeAny_builtin->yS,codeAny_call_builtin->Zv,codeAny_mono->Bx,isSubtype_stop->LQ,mem_of_lookup->iJ,plainId_quiet->wj,pushCells_keeps->Li,seqIndex_of->K9,sizeLine_eq->F_,slot_list_getitem->Yt,typeIs_int->Go,wpAny_Call_Name_kw->qJ,wpAny_Name->XY,wpAny_assign_Name->acb,wpAny_attempt->uf,wpAny_bind->az,wpAny_call->KS,wpAny_callSpecial?_slot->Cc,wpAny_call_entry->yY,wpAny_execs_cons->ab9,wpAny_execs_nil->U4,wpAny_field->g0,wpAny_getItem_list_neg->Yu,wpAny_handled->Tt,wpAny_holding->uS,wpAny_isInstance->LP,wpAny_isTrue_Compare1->ab6,wpAny_letGo->mr,wpAny_loadName_cell->ab2,wpAny_loadName_local->ab1,wpAny_mono->o_,wpAny_newList->LB,wpAny_newObj_type->yJ,wpAny_newTuple->Tq,wpAny_of_eq->B2,wpAny_onRaise->Ce,wpAny_passesOwn->Ik,wpAny_pure->bY,wpAny_pyIter_enum->YV,wpAny_pyIter_list->Im,wpAny_pyIter_range->ack,wpAny_pyIter_rangeiter->acj,wpAny_pyNext_range_end->aci,wpAny_rule->pN,wpAny_seqItems->iM,wpAny_setField_rec->pP,wpAny_standAt->U9,wpAny_throw->Tu,wpAny_truthy_bool->Bq,wpAny_tryCatch->nW,wpAny_updateSeq->BZ,wpAny_updateSeq_pair->LX
open PySem.Around renaming frames_deeper->Ym,under->SV,under_plainId->BY
open PySem.Builtin.Builtins renaming bindParams->LA
open PySem.Builtin.List renaming listTooLong->Ld
open PySem.Builtin.Range renaming rangeFitsLong->adS,rangeSize->PP,small->YR
open PySem.Builtin.SmallTypes renaming nextOf->LR,nextOrEnd->jJ,ownedTupleHandOut->L_,ownedTupleIsFree->wl
open PySem.Builtin.Tuple renaming tupleCompareSizes->adE
open PySem.Calls renaming Name_function_global->ab3
open PySem.Challenge renaming pw_jobsched_s01_answers->adP,rw_jobsched_s01_answers->uM
open PySem.CmpOp renaming NotIn->ab4
open PySem.Code renaming frames->Yg,isFrame->SW
open PySem.EqMixed renaming eq_bool_str->adZ,eq_int_str->adw,eq_str_bool->adx,eq_str_int->ady,ne_bool_str->adz,ne_int_str->adA,ne_str_bool->adB,ne_str_int->adC
open PySem.F renaming args_tuple_iterator_next_1->ZB,args_zip_next_1->Mb,called_zip->Ca,entry_max_loop->Uc,entry_min_loop->Tg,entry_object_init->Zy,entry_tuple_iterator_next->ZA,entry_zip_new->Zx,entry_zip_next->Ma,plainAttrs_list->jc,plain_max_loop->zh,plain_min_loop->yT,slot_int_rmul->YI,slot_list_append->yF,slot_list_extend->pJ,slot_tuple_iterator_next->LS,slot_zip_iter->ZH,slot_zip_next->ug,type_list_append->CC,type_list_extend->rL
open PySem.Heap renaming ExtBut->Ts,IsList->Tr,SameBut->Ii,get?_push_ne->Zs,get?_push_of_some->cf,get?_push_size->fN,get?_update_other->Yx,get?_update_self->Yw,lt_size->dB,size_push->fD,size_update->Zr
open PySem.Heap.IsSliceOf renaming new->adG
open PySem.Heap.SameBut renaming update->nX
open PySem.IsRange renaming new->acl
open PySem.NameKind renaming cell->S5,free->qR
open PySem.Obj renaming data_mapFields->ZC,mapSeq->dN
open PySem.Paired renaming cons->YK,length->XM,nil->YJ
open PySem.PassesOwn renaming never->eY
open PySem.SeqAt renaming EqAt->S0
open PySem.SeqAt.EqAt renaming int_int->Yo,int_str->abP,str_int->abQ
open PySem.Shared renaming heap->LO
open PySem.Str renaming ofString->cZ
open PySem.Value renaming bool->Bo,bytes->abR,float->abS,int->uN,none->xV,ref->ji,str->QZ5,type->Ia
open PySem.Value.ref renaming inj->adY
open PySem.Value.type renaming inj->Y2
open PySem.W renaming Frag->aE,WRecords->Y0,callWith_K->KU,callWith_K0->Yj,cellsFrom_some->Yl,codeIn->yD,emptyDict->tW,findIn->mf,fnOf->pG,handedIn->Yc,hasDictIn->KL,instObj->DY,isFn->Gb,keepIn->mh,kla_fn->Z1,ktu_apart->ZK,length_le_weightAllW->Y1,lookIn->KJ,makesIn->KP,methodCall_KW->Yi,methodObj->XO,mg_of->xF,noTabs->ZM,nsIn->uK,plainGet->Ga,plainGet_of->SR,plainOver->SS,tab_of->Ph,takerIn->SU
open PySem.W.Codec renaming app->abM,denoteAll->adW,encAll->adX
open PySem.W.Looks renaming here->adD
open PySem.Walks renaming list->v0,range->ach
open PyVbtkad renaming answers->HY,answers_asked->abx,calls->abA,shape->lD,whole->lC
open Sum renaming inl->Pj,inr->UM
open Sum.inl renaming inj->QZ6
open Vbtkad renaming Again->aV,Call->Uw,Frac->Mj,JOBS->Uz,Job->jR,LATEST->wV,Lefts->fX,Machine->ax,Once->fv,Part->ZU,againOk->rW,againsOf->e8,allOver->pZ,alone->Ux,anew->rZ,arrived->zy,between->zr,boundOf->HM,chosen->abt,compareRow->Ut,demand->oG,does->cI,fresh->zt,greatestInt->xo,inRange->c7,isIn->bJ,isOver->gw,jobAt->aX,lateness->zw,lcmOf->ig,lifted->xC,longestOf->Oc,movedOn->abr,noJob->oH,onceEnds->oE,onceFrom->abb,onceLate->uE,onceNext->aa7,onceOk->rV,oncesOf->jg,optional->Us,order->wY,overload->N2,partOf->abn,partsOk->Ou,ranOne->Uy,rankOk->Ur,ranksOf->uG,readies->T8,response->N5,setJob->C2,settled->abq,sleepers->C4,standNumber->G1,start->kD,step->Dp,stretchRow->Hs,stretches->Dm,sumOf->N6,tick->wU,ticks->fj,tight->HF,tookBy->xr,untilOver->jd,whoNumber->fJ
open Vbtkad.Machine renaming mk->Hi
open Vbtkad.Part renaming nap->MT,work->uv
open VbtkadNeutral renaming asked->adV,asked1->UJ,row40->abv,start->adU,step->p_
theorem zq_dk{p:Prop}(h:p:=by decide+kernel):p:=h
theorem zq_dc{p:Prop}(h:p:=by decide):p:=h
theorem ah{p:Prop}(h:p:=by omega):p:=h
theorem aL{p:Prop}(h:p:=by simp):p:=h
theorem i6{p:Prop}(h:p:=by simp;omega):p:=h
theorem bE:(1:Nat)<=2^24:=by decide
theorem eM:(2:Nat)<=2^24:=by decide
theorem bR{a:Nat}(h:Nat.ble (a+1) 1000=true:=by rfl):a<1000:=Nat.le_of_ble_eq_true h
theorem bS{α:Sort u}(a:α):∃x,x=a:=⟨a,rfl⟩
abbrev gh:=@decide_eq_false
abbrev W9:=@beq_eq_false_iff_ne
abbrev au:=@if_pos
abbrev ao:=@if_neg
abbrev j5:=@beq_iff_eq
abbrev bO:=@decide_eq_true
abbrev mo:=@if_true
abbrev pH:=@if_false
abbrev bc:=@decide_eq_true_eq
abbrev G8:=@of_decide_eq_true
abbrev MQ:=@decide_eq_false_iff_not
namespace L2
open PySem PySem.Spec PyProof.Rows
abbrev zD:=Sum Int Str
def SH:zD ->aq ->Bool
 |.inl k,v=>Value.isInt k v
 |.inr x,v=>Value.isStrOf x v
def abO(w:c9):zD ->Int
 |.inl k=>hashInt k
 |.inr x=>hashStr w x
theorem dU:∀{k:zD}{v:aq},SH k v=true ->(∃i t,k=Pj i/\v=uN i t)\/(∃x t,k=UM x/\v=QZ5 x t)
 |.inl i,v,h=>by
  obtain⟨t,e⟩:=Value.isInt_shape (k:=i) (v:=v) h;exact .inl ⟨i,t,rfl,e⟩
 |.inr x,v,h=>by
  obtain⟨t,e⟩:=Value.isStrOf_shape (x:=x) (v:=v) h;exact .inr ⟨x,t,rfl,e⟩
theorem UN(a b:Int):decide ((Pj a:zD)=Pj b)=(a==b):=by
 by_cases e:a=b
 .subst e;simp
 .have h:¬(Pj a:zD)=Pj b:=λ q=>e (QZ6 q)
  rw[gh h];exact(W9.mpr e).symm
theorem UO(a b:Str):decide ((UM a:zD)=UM b)=decide (a=b):=by
 by_cases e:a=b
 .subst e;simp
 .have h:¬(UM a:zD)=UM b:=λ q=>e (Sum.inr.inj q)
  rw[gh h,gh e]
theorem UP(a:Int)(b:Str):decide ((Pj a:zD)=UM b)=false:=gh (λ q=>nomatch q)
theorem UQ(a:Str)(b:Int):decide ((UM a:zD)=Pj b)=false:=gh (λ q=>nomatch q)
def F2(prog:dz)(w:c9):PySem.KeyKind prog w zD where
 is:=SH
 hash:=abO w
 inj:=λ v a b ha hb=>by
  rcases dU ha with⟨i,t,rfl,rfl⟩|⟨x,t,rfl,rfl⟩
  .rcases dU hb with⟨j,u,rfl,e⟩|⟨y,u,rfl,e⟩
   .injection e with e1 _;rw[e1]
   .exact nomatch e
  .rcases dU hb with⟨j,u,rfl,e⟩|⟨y,u,rfl,e⟩
   .exact nomatch e
   .injection e with e1 _;rw[e1]
 byValue:=λ k v h=>by
  rcases dU h with⟨i,t,rfl,rfl⟩|⟨x,t,rfl,rfl⟩<;>rfl
 pyHash:=λ hv h=>by
  rcases dU hv with⟨i,t,rfl,rfl⟩|⟨x,t,rfl,rfl⟩
  .exact wpAny_pyHash_int h
  .exact wpAny_pyHash_str h
 eqBool:=λ hu hv h=>by
  rcases dU hu with⟨i,t,rfl,rfl⟩|⟨x,t,rfl,rfl⟩
  .rcases dU hv with⟨j,u,rfl,rfl⟩|⟨y,u,rfl,rfl⟩
   .rw[UN]at h;exact wpAny_eqBool_int h
   .rw[UP]at h;exact abP i t y u _ _ _ _ h
  .rcases dU hv with⟨j,u,rfl,rfl⟩|⟨y,u,rfl,rfl⟩
   .rw[UQ]at h;exact abQ x t j u _ _ _ _ h
   .rw[UO]at h;exact wpAny_eqBool_str h
 «strs»:=λ k x t v h=>by
  rcases dU h with⟨i,u,rfl,e⟩|⟨y,u,rfl,e⟩
  .exact nomatch e
  .injection e with e1 _
   subst e1;cases v<;>rfl
end L2
namespace L2
open PySem PySem.Spec PyProof.Rows
abbrev b8:Str:="machine"
abbrev fb:Str:="numbers"
abbrev c_:Str:="row"
abbrev dL:Str:="job"
abbrev tO:Str:="kinds"
abbrev uO:Str:="jobs"
abbrev DX:Str:="ranges"
abbrev SI:Str:="line"
inductive V where
 |bu|bl (b:Bool)|int (i:Int)|str (x:Str)|zE (b:Array UInt8)|XJ (b:UInt64)|ref (a:Addr)|ty (n:String)
 deriving DecidableEq
def bT:V ->aq ->Prop
 |.bu,u=>u=xV
 |.bl b,u=>u=Bo b
 |.int i,u=>∃t,u=uN i t
 |.str x,u=>∃t,u=QZ5 x t
 |.zE b,u=>∃t,u=abR b t
 |.XJ b,u=>∃t,u=abS b t
 |.ref a,u=>u=ji a
 |.ty n,u=>u=Ia n
abbrev bv:List V ->List aq ->Prop:=Kl bT
theorem bv.length{xs:List V}{us:List aq}(r:bv xs us):xs.length=us.length:=XM r
theorem bv.get:∀{xs:List V}{us:List aq}{i:Nat}{x:V},bv xs us ->xs[i]?=some x ->∃u,us[i]?=some u/\bT x u
 |_,_,_,_,.nil,e=>by simp at e
 |_,_,0,_,.cons r _,e=>by simp at e;subst e;exact⟨_,rfl,r⟩
 |_,_,i+1,x,.cons _ t,e=>by
  obtain⟨u,h1,h2⟩:=bv.get (i:=i) (x:=x) t (by simpa using e);exact⟨u,by simpa using h1,h2⟩
theorem bv.set{x:V}{u:aq}(r:bT x u):∀{xs:List V}{us:List aq}(i:Nat),bv xs us ->bv (xs.set i x) (us.set i u)
 |_,_,_,.nil=>.nil
 |_,_,0,.cons _ t=>.cons r t
 |_,_,i+1,.cons q t=>.cons q (bv.set r i t)
theorem bv.append:∀{xs ys:List V}{us ws:List aq},bv xs us ->bv ys ws ->bv (xs++ys) (us++ws)
 |_,_,_,_,.nil,s=>s
 |_,_,_,_,.cons r t,s=>.cons r (bv.append t s)
theorem bv.take:∀{xs:List V}{us:List aq}(n:Nat),bv xs us ->bv (xs.take n) (us.take n)
 |_,_,0,_=>.nil
 |_,_,_+1,.nil=>.nil
 |_,_,n+1,.cons r t=>.cons r (bv.take n t)
theorem bv.drop:∀{xs:List V}{us:List aq}(n:Nat),bv xs us ->bv (xs.drop n) (us.drop n)
 |_,_,0,r=>r
 |_,_,_+1,.nil=>.nil
 |_,_,n+1,.cons _ t=>bv.drop n t
def xW:Option V ->Option aq ->Prop
 |some v,some u=>bT v u
 |none,none=>True
 |_,_=>False
def KV{κ:Type}:List (κ×V) ->List (κ×aq) ->Prop:=Kl λ(p:κ×V) (q:κ×aq)=>p.1=q.1/\bT p.2 q.2
def kV:zD ->V
 |.inl i=>.int i
 |.inr x=>.str x
inductive HO where
 |aD (xs:List V)
 |fc (xs:List V)
 |dK (kU:List (zD×V))|dT (kU:List (List zD×V))
 |set (S:Int ->Bool) (n:Nat)
 |bD (C dx:Addr) (fs:List (Str×V))
 |own (x:Addr)
 |xd (fs:List (Str×V))
 |met (f x:Addr)
 |rng (lo hi:Int)
 |yr (o:Obj) (u:HO)
 |tP (ps:Array aq)
 |ext (φ:Heap ->Prop)
abbrev Hp:=Addr ->Option HO
def aS(H:Hp)(a:Addr)(o:HO):Hp:=λ b=>if b=a then some o else H b
theorem aa{H:Hp}{a:Addr}{o:HO}:aS H a o a=some o:=by unfold aS;rw[au rfl]
theorem ag{H:Hp}{a b:Addr}{o:HO}(h:b≠a):aS H a o b=H b:=by unfold aS;rw[ao h]
theorem me{H:Hp}{a b:Addr}{o u:HO}(h:H a=some o)(h':H b=some u)(d:o≠u):a≠b:=by
 intro e;subst e;rw[h]at h';exact d (cT h')
theorem aM{H:Hp}{a b:Addr}{o:HO}(h:H a=some o)(h':H b=none):a≠b:=by
 intro e;subst e;rw[h]at h';cases h'
section
variable(P:dz)(w:c9)
def gm(H:Hp)(h:Heap)(a:Addr):HO ->Prop
 |.aD xs=>xs.length<=sizeLine/\∃(bb:List aq)(n:Nat),bv xs bb/\h.get? a=some {cls:=.type "list",data:=.seq bb.toArray n}
 |.fc xs=>xs.length<=sizeLine/\∃bb:List aq,bv xs bb/\IsTup h a bb.toArray
 |.dK kU=>kU.length<=sizeLine/\(a==sysModules)=false/\∃vs,KV kU vs/\h.DictOf (F2 P w) a vs
 |.dT kU=>kU.length<=sizeLine/\(a==sysModules)=false/\∃xs:List (List zD×Addr×aq),
   Kl (λ(p:List zD×V) (q:List zD×Addr×aq)=>p.1=q.1/\H q.2.1=some (.fc (p.1.map kV))/\bT p.2 q.2.2) kU xs/\
   ∃o es ep,h.get? a=some o/\o.ExactDict/\o.data=.dict es ep/\es.toList=xs.map (entryOfKey (tupleKind (F2 P w)))/\(xs.map (·.1)).Nodup
 |.set S n=>h.SetOf (intKind P w) a S n
 |.bD C dx fs=>H dx=some (.own a)/\fs.length<=1000/\dx≠a/\h.get? a=some (DY C dx)/\
   ∃mA,h.Ns1 dx mA/\(∀f,xW (fs.lookup f) (mA f))/\XN mA (fs.map (·.1))
 |.own _=>∃o,h.get? a=some o
 |.xd fs=>∃mA,h.Ns1 a mA/\∀f,xW (fs.lookup f) (mA f)
 |.rng lo hi=>∃t u v,h.get? a=some {cls:=.type "range",data:=.fields #[.int lo t,.int hi u,.int 1 v]}
 |.yr o u=>h.get? a=some o/\gm H h a u
 |.tP ps=>h.get? a=some {cls:=.none,data:=.fields ps}
 |.met f x=>h.get? a=some (XO (.ref f) (.ref x))
 |.ext φ=>φ h/\(∃o,h.get? a=some o)/\∀h1 h2:Heap,φ h1 ->(∀o,h1.get? a=some o ->h2.get? a=some o) ->φ h2
def qa(H:Hp)(h:Heap):Prop:=∀a o,H a=some o ->gm P w H h a o
end
section
variable{P:dz}{w:c9}{H H':Hp}{h h':Heap}{a:Addr}{o:HO}
theorem gm.lt(x:gm P w H h a o):a<h.objs.size:=by
 cases o with
 |aD xs=>obtain⟨_,_,_,_,e⟩:=x;exact dB e
 |fc xs=>obtain⟨_,_,_,p⟩:=x;exact p.lt
 |dK kU=>obtain⟨_,_,_,_,o,_,_,e,_⟩:=x;exact dB e
 |dT kU=>obtain⟨_,_,_,_,o,_,_,e,_⟩:=x;exact dB e
 |set S n=>obtain⟨o,_,_,_,e,_⟩:=x;exact dB e
 |bD C dx fs=>obtain⟨_,_,_,e,_⟩:=x;exact dB e
 |own y=>obtain⟨_,e⟩:=x;exact dB e
 |xd fs=>obtain⟨_,⟨_,_,_,e,_⟩,_⟩:=x;exact dB e
 |rng lo hi=>obtain⟨_,_,_,e⟩:=x;exact dB e
 |yr ob u=>obtain⟨e,_⟩:=x;exact dB e
 |tP ps=>exact dB (show h.get? a=some _ from x)
 |met f y=>exact dB (show h.get? a=some _ from x)
 |ext φ=>obtain⟨_,⟨_,e⟩,_⟩:=x;exact dB e
theorem Paired.XQ{α β:Type}{F G:α ->β ->Prop}:∀{l₁:List α}{l₂:List β},Kl F l₁ l₂ ->(∀a b,F a b ->G a b) ->Kl G l₁ l₂
 |_,_,.nil,_=>.nil
 |_,_,.cons r t,f=>.cons (f _ _ r) (Paired.XQ t f)
theorem gm.sA(x:gm P w H h a o)(k:∀b u,(b=a\/H b=some (.own a)) ->h.get? b=some u ->h'.get? b=some u)
  (ho:∀b,H b=some (.own a) ->H' b=some (.own a)) (ht:∀b xs,H b=some (.fc xs) ->H' b=some (.fc xs)):gm P w H' h' a o:=by
 induction o with
 |aD xs=>obtain⟨z,bb,n,r,e⟩:=x;exact⟨z,bb,n,r,k _ _ (.inl rfl) e⟩
 |fc xs=>obtain⟨z,bb,r,ob,e,c⟩:=x;exact⟨z,bb,r,ob,k _ _ (.inl rfl) e,c⟩
 |dK kU=>obtain⟨z,y,vs,r,ob,es,ep,e,c⟩:=x;exact⟨z,y,vs,r,ob,es,ep,k _ _ (.inl rfl) e,c⟩
 |dT kU=>
  obtain⟨z,y,xs,r,ob,es,ep,e,c⟩:=x;exact⟨z,y,xs,Paired.XQ r λ p q z=>⟨z.1,ht _ _ z.2.1,z.2.2⟩,ob,es,ep,k _ _ (.inl rfl) e,c⟩
 |set S n=>obtain⟨ob,es,ep,t,e,c⟩:=x;exact⟨ob,es,ep,t,k _ _ (.inl rfl) e,c⟩
 |bD C dx fs=>
  obtain⟨d,z,ne,e,mA,⟨od,es,ep,e2,c⟩,r⟩:=x;exact⟨ho _ d,z,ne,k _ _ (.inl rfl) e,mA,⟨od,es,ep,k _ _ (.inr d) e2,c⟩,r⟩
 |own y=>obtain⟨ob,e⟩:=x;exact⟨ob,k _ _ (.inl rfl) e⟩
 |xd fs=>obtain⟨mA,⟨od,es,ep,e,c⟩,r⟩:=x;exact⟨mA,⟨od,es,ep,k _ _ (.inl rfl) e,c⟩,r⟩
 |rng lo hi=>obtain⟨t,u,v,e⟩:=x;exact⟨t,u,v,k _ _ (.inl rfl) e⟩
 |yr ob u ih=>obtain⟨e,q⟩:=x;exact⟨k _ _ (.inl rfl) e,ih q⟩
 |tP ps=>
  have e:h.get? a=some {cls:=.none,data:=.fields ps}:=x;show h'.get? a=some {cls:=.none,data:=.fields ps};exact k a _ (.inl rfl) e
 |met f y=>
  have e:h.get? a=some (XO (.ref f) (.ref y)):=x;show h'.get? a=some (XO (.ref f) (.ref y));exact k a _ (.inl rfl) e
 |ext φ=>obtain⟨p,⟨o,e⟩,st⟩:=x;exact⟨st _ _ p λ o q=>k _ _ (.inl rfl) q,⟨o,k _ _ (.inl rfl) e⟩,st⟩
theorem qa.lt(x:qa P w H h)(e:H a=some o):a<h.objs.size:=(x a o e).lt
theorem qa.fresh(x:qa P w H h)(e:h.objs.size<=a):H a=none:=by
 cases q:H a with
 |none=>rfl
 |some u=>exact absurd (iY (x.lt q) e) (vI _)
theorem qa.fw(x:qa P w H h)(k:∀b u,h.get? b=some u ->h'.get? b=some u):qa P w H h':=λ a o e=>
 (x a o e).sA (λ b u _ q=>k b u q) (λ _ q=>q) λ _ _ q=>q
theorem qa.sB(x:qa P w H h)(k:∀b u,h.get? b=some u ->h'.get? b=some u)(hp:h.objs.size<=a)(new:gm P w (aS H a o) h' a o):qa P w (aS H a o) h':=λ b u e=>by
 have hn:=x.fresh hp;by_cases hb:b=a
 .subst hb;rw[aa]at e;cases e;exact new
 .rw[ag hb]at e;exact(x b u e).sA (λ c v _ q=>k c v q) (λ c q=>by rw[ag (aM q hn)];exact q) λ c xs q=>by rw[ag (aM q hn)];exact q
end
def Rd(H:Hp)(a:Addr)(u:HO):Prop:=H a=some u\/∃o,H a=some (.yr o u)
theorem Rd.ok{P:dz}{w:c9}{H:Hp}{h:Heap}{a:Addr}{u:HO}(r:Rd H a u)(x:qa P w H h):gm P w H h a u:=by
 rcases r with r|⟨o,r⟩
 .exact x a u r
 .obtain⟨_,q⟩:=x a _ r;exact q
def Mut:Option HO ->Prop
 |some (.aD _)=>True
 |some (.dK _)=>True
 |some (.dT _)=>True
 |some (.set _ _)=>True
 |some (.bD _ _ _)=>True
 |some (.ext _)=>True
 |_=>False
section
variable{P:dz}{w:c9}{H:Hp}{h h':Heap}{x e:Addr}{o':HO}
theorem qa.tQ(ok:qa P w H h)(mu:Mut (H x))(he:e=x\/H e=some (.own x))(k:∀b u,b≠e ->h.get? b=some u ->h'.get? b=some u)(W_:∃u,h'.get? e=some u)
  (new:gm P w (aS H x o') h' x o'):qa P w (aS H x o') h':=λ b u q=>by
 have XR:∀c y,H c=some (.own y) ->c≠x:=λ c y r z=>by subst z;rw[r]at mu;exact mu
 have abT:∀c xs,H c=some (.fc xs) ->c≠x:=λ c xs r z=>by subst z;rw[r]at mu;exact mu
 by_cases hb:b=x
 .subst hb;rw[aa]at q;cases q;exact new
 .rw[ag hb]at q;by_cases UR:b=e
  .have q':H b=some (.own x):=by
    rcases he with z|z
    .exact absurd (UR.trans z) hb
    .rw[UR];exact z
   rw[q]at q';cases q';obtain⟨v,hv⟩:=W_;exact⟨v,by rw[UR];exact hv⟩
  .refine(ok b u q).sA (λ c v hc r=>k c v ?_ r) (λ c r=>by rw[ag (XR c b r)];exact r) λ c xs r=>by rw[ag (abT c xs r)];exact r
   rcases hc with rfl|hc
   .exact UR
   .rintro rfl
    rcases he with z|z
    .exact XR c b hc z
    .rw[hc]at z;cases z;exact hb rfl
end
structure Un(fs ex:List Addr)(H H':Hp)(h h':Heap):Prop where
 keep:∀b o,h.get? b=some o ->H b=none ->b∉fs ->b∉ex ->h'.get? b=some o
 slot:∀b o,h.get? b=some o ->H b=none ->b∈fs ->b∉ex ->∃sl,h'.get? b=some {o with slots:=sl}
 free:∀b o,h.get? b=some o ->H b=none ->b∉ex ->H' b=none
 there:∀b o,h.get? b=some o ->b∉ex ->∃o',h'.get? b=some o'
 zF:∀b xs,H b=some (.fc xs) ->H' b=some (.fc xs)
 xX:∀b o u,H b=some (.yr o u) ->H' b=some (.yr o u)
 xY:∀b ps,H b=some (.tP ps) ->∃more,H' b=some (.tP (ps++more))
section
variable{fs Xa ex ex':List Addr}{H H1 H2:Hp}{h h1 h2 h':Heap}{a x e:Addr}{o:HO}
theorem Un.any(u:Un fs ex H H1 h h1){b:Addr}{ob:Obj}(q:h.get? b=some ob)(n:H b=none)(hx:b∉ex):∃sl,h1.get? b=some {ob with slots:=sl}:=by
 by_cases hb:b∈fs
 .exact u.slot b ob q n hb hx
 .exact⟨ob.slots,u.keep b ob q n hb hx⟩
theorem Un.fw(k:∀b u,h.get? b=some u ->h'.get? b=some u):Un fs ex H H h h':=
 ⟨λ b ob q _ _ _=>k b ob q,λ b ob q _ _ _=>⟨ob.slots,k b ob q⟩,λ _ _ _ n _=>n,λ b ob q _=>⟨ob,k b ob q⟩,λ _ _ q=>q,λ _ _ _ q=>q,λ _ ps q=>⟨#[],by rw[q];simp⟩⟩
theorem Un.refl:Un fs ex H H h h:=Un.fw λ _ _ q=>q
theorem Un.sB(k:∀b u,h.get? b=some u ->h'.get? b=some u)(hp:h.objs.size<=a)(hn:H a=none):Un fs ex H (aS H a o) h h' where
 keep:=λ b u q _ _ _=>k b u q
 slot:=λ b u q _ _ _=>⟨u.slots,k b u q⟩
 free:=λ b u q n _=>by rw[ag (jj (iY (dB q) hp))];exact n
 there:=λ b u q _=>⟨u,k b u q⟩
 zF:=λ b xs q=>by rw[ag (aM q hn)];exact q
 xX:=λ b u xs q=>by rw[ag (aM q hn)];exact q
 xY:=λ b ps q=>⟨#[],by rw[ag (aM q hn),q];simp⟩
theorem Un.tQ(mu:Mut (H x))(he:e=x\/H e=some (.own x))(k:∀b u,b≠e ->h.get? b=some u ->h'.get? b=some u)(W_:∃u,h'.get? e=some u):Un fs ex H (aS H x o) h h':=by
 have hx:∀b,H b=none ->b≠x:=λ b n z=>by subst z;rw[n]at mu;exact mu
 have hb:∀b,H b=none ->b≠e:=λ b n z=>by
  subst z;rcases he with r|r
  .exact hx b n r
  .rw[n]at r;cases r
 have hm:∀b u,H b=some u ->¬Mut (some u) ->b≠x:=λ b u q nm z=>by subst z;rw[q]at mu;exact nm mu
 refine⟨λ b u q n _ _=>k b u (hb b n) q,λ b u q n _ _=>⟨u.slots,k b u (hb b n) q⟩,λ b u q n _=>by rw[ag (hx b n)];exact n,λ b u q _=>?_,
  λ b xs q=>by rw[ag (hm b _ q λ z=>z)];exact q,λ b u xs q=>by rw[ag (hm b _ q λ z=>z)];exact q,λ b ps q=>⟨#[],by rw[ag (hm b _ q λ z=>z),q];simp⟩⟩
 by_cases UR:b=e
 .subst UR;exact W_
 .exact⟨u,k b u UR q⟩
end
def trk(h:Heap)(H:Hp):List Addr:=(bf h.objs.size).filter λ a=>(H a).isSome
def xZ(h:Heap)(H:Hp):Heap:=PySem.W.hideAll h (trk h H)
theorem Ib(h:Heap)(H:Hp):(xZ h H).objs.size=h.objs.size:=PySem.W.hideAll_size _ _
theorem Km{h:Heap}{H:Hp}{b:Addr}{o:Obj}(e:h.get? b=some o)(n:H b=none):(xZ h H).get? b=some o:=
 PySem.W.hideAll_get _ e λ hm=>by
  have q:(H b).isSome=true:=(ii.mp hm).2;rw[n]at q;simp at q
theorem Px{h:Heap}{H:Hp}{b:Addr}{o:Obj}(e:(xZ h H).get? b=some o):h.get? b=some o/\H b=none:=by
 have e':h.get? b=some o:=PySem.W.of_hideAll (trk h H) e;refine⟨e',?_⟩;cases q:H b with
 |none=>rfl
 |some x=>
  have hm:b∈trk h H:=ii.mpr ⟨gB.mpr (dB e'),by simp[q]⟩;have z:(xZ h H).get? b=none:=PySem.W.hideAll_none (trk h H) hm;rw[z]at e;cases e
end L2
namespace L2
open PySem PySem.Spec PyProof.Rows
structure Mod(K:aE)(mg:Str ->Option aq)(base:Heap):Prop where
 Xb:K.In base
 uP:base.Ns mainGlobals mg
 blt:∃mb,base.Ns builtinsNs mb/\∀x:Str,x≠"__name__" ->mb x=bootBuiltins x
 nolimit:base.NoLimit
structure Cx where
 prog:dz
 w:c9
 K:aE
 mg:Str ->Option aq
 base:Heap
 A:cw
 N:List Str
 x8:ap
 Xc:Hp
 aC:Env
 aA:List Env
 stack:List Env
 ex:List Addr
 fn:Str ->Bool
 mS:Bool
 pn:List (Addr×Obj)
 xe:aq ->ap ->Prop
def Kn(l:List Env):List Addr:=l.filterMap (·.frame)
abbrev Cx.fs(X:Cx):List Addr:=Kn X.aA
def US(sc:fz)(x:Str):Prop:=sc.names.lookup x=some .local\/sc.names.lookup x=some .cell\/sc.names.lookup x=some .free
def XS(sc:fz)(x:Str):Prop:=sc.names.lookup x=some .local\/sc.names.lookup x=some .cell
def abU(aC:Env)(h:Heap)(m:Str ->Option aq)(x:Str)(u:aq):Prop:=
 (aC.kindOf x=some .local/\m x=some u)\/((aC.kindOf x=some .cell\/aC.kindOf x=some .free)/\∃c,aC.cells.lookup x=some c/\h.IsCell c (some u))
structure Cx.Ok(X:Cx):Prop where
 mod:Mod X.K X.mg X.base
 kind:X.aC.scope.kind=.function
 uP:X.aC.globals=mainGlobals
 blt:X.aC.builtins=builtinsNs
 above:X.x8.heap.objs.size<=X.aC.locals
 inj:∀x y c,X.aC.cells.lookup x=some c ->X.aC.cells.lookup y=some c ->x=y
 has:∀x,(X.aC.kindOf x=some .cell\/X.aC.kindOf x=some .free) ->∃c,X.aC.cells.lookup x=some c
 XT:∀x c,X.fn x=true ->X.aC.cells.lookup x=some c ->X.x8.heap.objs.size<=c
 hd:X.mS=true ->X.A.handled=none
 frames:X.A.frames=some X.stack
 stk:X.stack=X.aA\/(X.stack=X.aC::X.aA/\X.aC.frame=some X.aC.locals)
 exf:∀b∈X.ex,b≠X.aC.locals/\∀x c,X.aC.cells.lookup x=some c ->c≠b
 bs:∀b o,X.base.get? b=some o ->X.x8.heap.get? b=some o/\X.Xc b=none
 Pk:X.base.objs.size<=X.x8.heap.objs.size
 Ko:∀b o,X.base.get? b=some o ->b∉X.ex
 Kp:∀b∈X.ex,b∉X.fs
 uQ:X.x8.heap.FunFrames X.base X.aA
 UT:∀b∈X.fs,X.Xc b=none
structure aZ(X:Cx)(pins:List (Addr×Obj))(σ:List (Option V))(H:Hp)(s:ap):Prop where
 ok:X.Ok
 os:s.os=X.x8.os
 jk:Ic s.gens
 base:Un X.fs X.ex X.Xc H X.x8.heap s.heap
 Bb:∃m,s.heap.Ns X.aC.locals m/\∀(i:Nat)(x:Str)(v:V),X.N[i]?=some x ->σ[i]?=some (some v) ->US X.aC.scope x ->∃u,bT v u/\abU X.aC s.heap m x u
 cell:∀x c,X.aC.cells.lookup x=some c ->∃v,s.heap.IsCell c v
 free:H X.aC.locals=none
 kW:∀x c,X.aC.cells.lookup x=some c ->H c=none
 tR:∀p∈X.pn++pins,s.heap.get? p.1=some p.2/\H p.1=none/\p.1≠X.aC.locals/\p.1∉X.fs/\∀v,p.2.data≠.cell v
 db:qa X.prog X.w H s.heap
 len:σ.length=X.N.length
section
variable{X:Cx}{pins:List (Addr×Obj)}{σ:List (Option V)}{H H':Hp}{s:ap}{h':Heap}
theorem Cx.Ok.abV(ok:X.Ok){b:Addr}{o:Obj}(e:X.base.get? b=some o):b∉X.fs:=λ hb=>by
 have:=(ok.uQ.mem hb).1;rw[e]at this;cases this
theorem aZ.bs(I:aZ X pins σ H s):∀b o,X.base.get? b=some o ->s.heap.get? b=some o/\H b=none:=λ b o e=>
 ⟨I.base.keep b o (I.ok.bs b o e).1 (I.ok.bs b o e).2 (I.ok.abV e) (I.ok.Ko b o e),I.base.free b o (I.ok.bs b o e).1 (I.ok.bs b o e).2 (I.ok.Ko b o e)⟩
theorem aZ.bk(I:aZ X pins σ H s):∀b o,X.base.get? b=some o ->s.heap.get? b=some o:=λ b o e=>(I.bs b o e).1
theorem aZ.mod(I:aZ X pins σ H s):Mod X.K X.mg X.base:=I.ok.mod
theorem aZ.Bc(I:aZ X pins σ H s):X.K.In s.heap:=I.ok.mod.Xb.keeps I.bk
theorem aZ.nolimit(I:aZ X pins σ H s):s.heap.NoLimit:=I.ok.mod.nolimit.keeps I.bk
theorem aZ.lt(I:aZ X pins σ H s):X.aC.locals<s.heap.objs.size:=let⟨_,hn,_⟩:=I.Bb;hn.lt
theorem aZ.sz(I:aZ X pins σ H s):X.x8.heap.objs.size<=s.heap.objs.size:=fB I.ok.above (Ie I.lt)
theorem aZ.abW(I:aZ X pins σ H s){a:Addr}(h:s.heap.objs.size<=a):a∉X.fs:=λ hb=>by
 obtain⟨_,o,ho,_⟩:=I.ok.uQ.mem hb;exact absurd (iY (dB ho) (fB I.sz h)) (vI _)
theorem aZ.UU(I:aZ X pins σ H s):∀x c,X.aC.cells.lookup x=some c ->c≠X.aC.locals:=λ x c e z=>by
 obtain⟨v,o,ho,hd⟩:=I.cell x c e;obtain⟨m,⟨o',es,ep,vk,Kq,_⟩,_⟩:=I.Bb;rw[z,vk]at ho;cases ho;rw[Kq]at hd;cases hd
theorem aZ.uQ(I:aZ X pins σ H s):s.heap.FunFrames X.base X.aA:=by
 have all:∀(l:List Env),(∀b∈Kn l,b∈X.fs) ->X.x8.heap.FunFrames X.base l ->s.heap.FunFrames X.base l:=by
  intro l;induction l with
  |nil=>intro _ _;trivial
  |cons aC r ih=>
   intro hs hl;obtain⟨hk,⟨L,o,hf,hn,ho,hd⟩,hr⟩:=hl;have hL:L∈X.fs:=hs L (by unfold Kn;rw[Bp,hf];exact fM);obtain⟨sl,e⟩:=I.base.slot L o ho (I.ok.UT L hL) hL λ z=>I.ok.Kp L z hL
   exact⟨hk,⟨L,_,hf,hn,e,hd⟩,ih (λ b hb=>hs b (by unfold Kn;rw[Bp,hf];exact ff _ hb)) hr⟩
 exact all X.aA (λ _ hb=>hb) I.ok.uQ
theorem aZ.stack(I:aZ X pins σ H s):s.heap.FunFrames X.base X.stack:=by
 rcases I.ok.stk with e|⟨e,hf⟩
 .rw[e];exact I.uQ
 .rw[e];obtain⟨m,hn,_⟩:=I.Bb;refine .cons (by rw[I.ok.kind];decide) hf hn ?_ I.uQ;exact Heap.get?_none_of_le (fB I.ok.Pk I.ok.above)
theorem aZ.DZ(I:aZ X pins σ H s):∀b∈Kn X.stack,b∈X.aC.locals::X.fs:=λ b hb=>by
 rcases I.ok.stk with e|⟨e,hf⟩
 .rw[e]at hb;exact ff _ hb
 .rw[e]at hb;unfold Kn at hb;rw[Bp,hf]at hb;exact hb
theorem aZ.zG(I:aZ X pins σ H s):∀b∈Kn X.stack,H b=none:=λ b hb=>by
 rcases eB.mp (I.DZ b hb)with e|hb
 .rw[e];exact I.free
 .obtain⟨_,o,ho,_⟩:=I.ok.uQ.mem hb;exact I.base.free b o ho (I.ok.UT b hb) λ z=>I.ok.Kp b z hb
theorem aZ.step{g':Array GenState}{t':Nat}{d':Drawn}{ch:List Addr}(I:aZ X pins σ H s)
  (yt:∀b∈ch,(b∈X.ex\/X.x8.heap.objs.size<=b)/\b≠X.aC.locals/\(∀x c,X.aC.cells.lookup x=some c ->c≠b)/\∀p∈X.pn++pins,p.1≠b)
  (keep:∀b o,b≠X.aC.locals ->b∉X.fs ->b∉ch ->s.heap.get? b=some o ->H b=none ->h'.get? b=some o)
  (slot:∀b o,b≠X.aC.locals ->b∈X.fs ->b∉ch ->s.heap.get? b=some o ->H b=none ->∃sl,h'.get? b=some {o with slots:=sl}) (free:∀b o,b∉ch ->s.heap.get? b=some o ->H b=none ->H' b=none)
  (there:∀b o,b∉ch ->s.heap.get? b=some o ->∃o',h'.get? b=some o')
  (zF:∀b xs,H b=some (.fc xs) ->H' b=some (.fc xs)) (xX:∀b o u,H b=some (.yr o u) ->H' b=some (.yr o u)) (xY:∀b ps,H b=some (.tP ps) ->∃more,H' b=some (.tP (ps++more)))
  (ns:∀m,s.heap.Ns X.aC.locals m ->h'.Ns X.aC.locals m) (db:qa X.prog X.w H' h') (hg:Ic g'):
  aZ X pins σ H' {s with heap:=h',gens:=g',drawn:=d',toks:=t'}:=by
 have neL:∀b o,X.x8.heap.get? b=some o ->b≠X.aC.locals:=λ b o e=>jj (iY (dB e) I.ok.above)
 have neC:∀b o,X.x8.heap.get? b=some o ->b∉X.ex ->b∉ch:=λ b o e hx hb=>by
  rcases(yt b hb).1 with z|z
  .exact hx z
  .exact absurd (iY (dB e) z) (vI _)
 have SJ:∀x c,X.aC.cells.lookup x=some c ->∀v,s.heap.IsCell c v ->h'.IsCell c v:=λ x c e v ⟨o,ho,hd⟩=>by
  have XU:c∉ch:=λ z=>(yt c z).2.2.1 x c e rfl
  by_cases hc:c∈X.fs
  .obtain⟨sl,q⟩:=slot c o (I.UU x c e) hc XU ho (I.kW x c e);exact⟨_,q,hd⟩
  .exact⟨o,keep c o (I.UU x c e) hc XU ho (I.kW x c e),hd⟩
 refine⟨I.ok,I.os,hg,⟨λ b o e n hb hx=>?_,λ b o e n hb hx=>?_,λ b o e n hx=>?_,λ b o e hx=>?_,λ b xs e=>zF b xs (I.base.zF b xs e),λ b o xs e=>xX b o xs (I.base.xX b o xs e),λ b ps e=>?_⟩,?_,λ x c e=>?_,?_,λ x c e=>?_,λ p hp=>?_,db,I.len⟩
 .exact keep b o (neL b o e) hb (neC b o e hx) (I.base.keep b o e n hb hx) (I.base.free b o e n hx)
 .obtain⟨sl,e1⟩:=I.base.slot b o e n hb hx;obtain⟨sl',e2⟩:=slot b _ (neL b o e) hb (neC b o e hx) e1 (I.base.free b o e n hx);exact⟨sl',e2⟩
 .obtain⟨o',e1⟩:=I.base.there b o e hx;exact free b o' (neC b o e hx) e1 (I.base.free b o e n hx)
 .obtain⟨o',e1⟩:=I.base.there b o e hx;exact there b o' (neC b o e hx) e1
 .obtain⟨m1,e1⟩:=I.base.xY b ps e;obtain⟨m2,e2⟩:=xY b _ e1;exact⟨m1++m2,by rw[e2,Array.append_assoc]⟩
 .obtain⟨m,hn,hl⟩:=I.Bb;refine⟨m,ns m hn,λ i x v e1 e2 e3=>?_⟩;obtain⟨u,r,l⟩:=hl i x v e1 e2 e3;refine⟨u,r,?_⟩;rcases l with l|⟨k,c,e,z⟩
  .exact .inl l
  .exact .inr ⟨k,c,e,SJ x c e _ z⟩
 .obtain⟨v,z⟩:=I.cell x c e;exact⟨v,SJ x c e v z⟩
 .obtain⟨m,⟨o,_,_,ho,_⟩,_⟩:=I.Bb;exact free _ o (λ z=>(yt _ z).2.1 rfl) ho I.free
 .obtain⟨v,o,ho,hd⟩:=I.cell x c e;exact free c o (λ z=>(yt c z).2.2.1 x c e rfl) ho (I.kW x c e)
 .obtain⟨e,n,ne,nf,d⟩:=I.tR p hp;have XU:p.1∉ch:=λ z=>(yt p.1 z).2.2.2 p hp rfl
  exact⟨keep p.1 p.2 ne nf XU e n,free p.1 p.2 XU e n,ne,nf,d⟩
theorem aZ.un{t':Nat}(I:aZ X pins σ H s)(u:Un X.fs [] H H' s.heap h')(db:qa X.prog X.w H' h'):aZ X pins σ H' {s with heap:=h',toks:=t'}:=by
 obtain⟨m,⟨o,es,ep,ho,r⟩,_⟩:=id I.Bb;obtain⟨sl,hL⟩:=u.any ho I.free aL;exact I.step (g':=s.gens) (d':=s.drawn) (ch:=[]) (λ _ z=>nomatch z) (λ b o _ hb _ e n=>u.keep b o e n hb aL) (λ b o _ hb _ e n=>u.slot b o e n hb aL) (λ b o _ e n=>u.free b o e n aL) (λ b o _ e=>u.there b o e aL) u.zF u.xX u.xY (λ m' hm=>by
  obtain⟨o',XV,ep',vk,r'⟩:=hm;rw[ho]at vk;cases vk;exact⟨_,XV,ep',hL,r'⟩) db I.jk
theorem aZ.call{g':Array GenState}{t':Nat}{d':Drawn}{ch:List Addr}(I:aZ X pins σ H s)(u:Un (Kn X.stack) ch H H' s.heap h')(db:qa X.prog X.w H' h')(hg:Ic g')
  (yt:∀b∈ch,(b∈X.ex\/X.x8.heap.objs.size<=b)/\b≠X.aC.locals/\(∀x c,X.aC.cells.lookup x=some c ->c≠b)/\∀p∈X.pn++pins,p.1≠b):
  aZ X pins σ H' {s with heap:=h',gens:=g',drawn:=d',toks:=t'}:=by
 obtain⟨m,⟨o,es,ep,ho,r⟩,_⟩:=id I.Bb;obtain⟨sl,hL⟩:=u.any ho I.free λ z=>(yt _ z).2.1 rfl
 exact I.step (ch:=ch) yt (λ b o hL hb hc e n=>u.keep b o e n (λ z=>(eB.mp (I.DZ b z)).elim hL hb) hc) (λ b o _ _ hc e n=>u.any e n hc) (λ b o hc e n=>u.free b o e n hc) (λ b o hc e=>u.there b o e hc) u.zF u.xX u.xY (λ m' hm=>by
  obtain⟨o',XV,ep',vk,r'⟩:=hm;rw[ho]at vk;cases vk;exact⟨_,XV,ep',hL,r'⟩) db hg
theorem aZ.lG{t':Nat}{it:Addr}(I:aZ X pins σ H s)(k:∀b o,b≠it ->s.heap.get? b=some o ->h'.get? b=some o)(hn:H it=none)(hL:it≠X.aC.locals)
  (h1:it∈X.ex\/X.x8.heap.objs.size<=it) (h2:∀x c,X.aC.cells.lookup x=some c ->c≠it) (h3:∀p∈X.pn++pins,p.1≠it):aZ X pins σ H {s with heap:=h',toks:=t'}:=by
 have SK:∀b u,H b=some u ->b≠it:=λ b u e z=>by rw[z,hn]at e;cases e
 refine I.step (g':=s.gens) (d':=s.drawn) (ch:=[it]) (λ b hb=>?_) (λ b o _ _ hc e _=>k b o (λ z=>hc (by simp[z])) e) (λ b o _ _ hc e _=>⟨o.slots,k b o (λ z=>hc (by simp[z])) e⟩) (λ _ _ _ _ n=>n)
  (λ b o hc e=>⟨o,k b o (λ z=>hc (by simp[z])) e⟩) (λ _ _ e=>e) (λ _ _ _ e=>e) (λ b ps e=>⟨#[],by rw[e];simp⟩) (λ m hm=>?_) (λ b u e=>?_) I.jk
 .have e:b=it:=by simpa using hb
  subst e;exact⟨h1,hL,h2,h3⟩
 .obtain⟨o,es,ep,ho,r⟩:=hm;exact⟨o,es,ep,k _ o (qb hL) ho,r⟩
 .refine(I.db b u e).sA (λ c v hc q=>k c v ?_ q) (λ _ q=>q) λ _ _ q=>q
  rcases hc with z|z
  .rw[z];exact SK b u e
  .exact SK c _ z
theorem aZ.Ig(I:aZ X pins σ H s)(t:Nat):aZ X pins σ H {s with toks:=t}:=I.un (h':=s.heap) (t':=t) Un.refl I.db
theorem aZ.fw{t':Nat}(I:aZ X pins σ H s)(k:∀b u,s.heap.get? b=some u ->h'.get? b=some u):aZ X pins σ H {s with heap:=h',toks:=t'}:=I.un (Un.fw k) (I.db.fw k)
theorem aZ.sB{a:Addr}{o:HO}{t':Nat}(I:aZ X pins σ H s)(k:∀b u,s.heap.get? b=some u ->h'.get? b=some u)(hp:s.heap.objs.size<=a)(new:gm X.prog X.w (aS H a o) h' a o):
  aZ X pins σ (aS H a o) {s with heap:=h',toks:=t'}:=I.un (Un.sB k hp (I.db.fresh hp)) (I.db.sB k hp new)
theorem aZ.tQ{x e:Addr}{o:HO}{t':Nat}(I:aZ X pins σ H s)(mu:Mut (H x))(he:e=x\/H e=some (.own x))(k:∀b u,b≠e ->s.heap.get? b=some u ->h'.get? b=some u)(W_:∃u,h'.get? e=some u)
  (new:gm X.prog X.w (aS H x o) h' x o):aZ X pins σ (aS H x o) {s with heap:=h',toks:=t'}:=I.un (Un.tQ mu he k W_) (I.db.tQ mu he k W_ new)
theorem aZ.abX{σ':List (Option V)}(I:aZ X pins σ H s)(hl:σ'.length=σ.length)(w:∀(i:Nat) v,σ'[i]?=some (some v) ->σ[i]?=some (some v)):aZ X pins σ' H s:=
 ⟨I.ok,I.os,I.jk,I.base,let⟨m,hn,XW⟩:=I.Bb;⟨m,hn,λ i x v e1 e2 e3=>XW i x v e1 (w i v e2) e3⟩,I.cell,I.free,I.kW,I.tR,I.db,hl.trans I.len⟩
theorem aZ.lH{SM:List (Addr×Obj)}(I:aZ X pins σ H s)(h:∀p∈SM,s.heap.get? p.1=some p.2/\H p.1=none/\p.1≠X.aC.locals/\p.1∉X.fs/\∀v,p.2.data≠.cell v):aZ X SM σ H s:=
 ⟨I.ok,I.os,I.jk,I.base,I.Bb,I.cell,I.free,I.kW,λ p hp=>(kX.mp hp).elim (λ z=>I.tR p (Py _ z)) (h p),I.db,I.len⟩
theorem vJ{N:List Str}(hN:N.Nodup){i j:Nat}{x:Str}(a:N[i]?=some x)(b:N[j]?=some x):i=j:=by
 obtain⟨h1,e1⟩:=gM.mp a;obtain⟨h2,e2⟩:=gM.mp b;exact(abY hN).mp (e1.trans e2.symm)
theorem yu{M:Ih}{A:cw}{E:aq ->ap ->Prop}{i:Nat}{x:Str}{v:V}{u:aq}{Q:Unit ->ap ->Prop}(I:aZ X pins σ H s)(hN:X.N.Nodup)(hi:X.N[i]?=some x)(hx:XS X.aC.scope x)(r:bT v u)
  (h:∀s',aZ X pins (σ.set i (some v)) H s' ->(∃a,Ii a s.heap s'.heap/\(a=X.aC.locals\/X.aC.cells.lookup x=some a)) ->Q () s') (hf:X.fn x=true\/X.aC.scope.names.lookup x=some .local:=by first|exact .inl rfl|exact .inr rfl|assumption):wpAny M A (storeName X.aC x u) Q E s:=by
 obtain⟨m,hn,hl⟩:=id I.Bb;have abZ:(X.aC.scope.kind==.class||(X.aC.scope.kind==.module&&X.aC.locals !=X.aC.globals))=false:=by rw[I.ok.kind];rfl
 have hiσ:i<σ.length:=by rw[I.len];exact(gM.mp hi).1
 have UU:=I.UU;have tracked:∀{a:Addr}{h':Heap},(∃o,s.heap.get? a=some o/\H a=none) ->Ii a s.heap h' ->qa X.prog X.w H h':=λ{a h'} ha hs b ob e=>by
  obtain⟨_,_,yw⟩:=ha;refine(I.db b ob e).sA (λ c w' hc q=>(hs.2 c ?_).trans q) (λ _ q=>q) λ _ _ q=>q
  rintro rfl
  rcases hc with rfl|hc
  .rw[yw]at e;cases e
  .rw[yw]at hc;cases hc
 rcases hx with hk|hk
 .refine wpAny_storeName_local hk hn (λ h' Xd hs=>?_) abZ;obtain⟨oL,_,_,SN,_⟩:=id hn;refine h _ ⟨I.ok,I.os,I.jk,⟨λ b o e n hb hx=>?_,λ b o e n hb hx=>?_,I.base.free,λ b o e hx=>?_,I.base.zF,I.base.xX,I.base.xY⟩,⟨_,Xd,λ j y v' e1 e2 e3=>?_⟩,λ y c e=>?_,I.free,I.kW,λ p hp=>?_,tracked ⟨oL,SN,I.free⟩ hs,by simpa using I.len⟩ ⟨_,hs,.inl rfl⟩
  .exact(hs.2 b (jj (iY (dB e) I.ok.above))).trans (I.base.keep b o e n hb hx)
  .obtain⟨sl,e1⟩:=I.base.slot b o e n hb hx;exact⟨sl,(hs.2 b (jj (iY (dB e) I.ok.above))).trans e1⟩
  .obtain⟨o',e1⟩:=I.base.there b o e hx;exact⟨o',(hs.2 b (jj (iY (dB e) I.ok.above))).trans e1⟩
  .by_cases hj:j=i
   .subst hj;rw[hi]at e1;cases e1;rw[qF hiσ]at e2;cases e2;exact⟨u,r,.inl ⟨hk,by simp⟩⟩
   .rw[o9 (qb hj)]at e2;obtain⟨u',r',q⟩:=hl j y v' e1 e2 e3;refine⟨u',r',?_⟩;rcases q with⟨k,e⟩|⟨k,c,e,z⟩
    .refine .inl ⟨k,?_⟩;have:y≠x:=λ e=>hj (vJ hN e1 (e▸hi))
     simp[this,e]
    .exact .inr ⟨k,c,e,z.sameBut hs (UU y c e)⟩
  .obtain⟨w',z⟩:=I.cell y c e;exact⟨w',z.sameBut hs (UU y c e)⟩
  .obtain⟨e,n,ne,nf,d⟩:=I.tR p hp;exact⟨(hs.2 p.1 ne).trans e,n,ne,nf,d⟩
 .have UV:X.fn x=true:=by
   rcases hf with z|z
   .exact z
   .rw[z]at hk;cases hk
  obtain⟨c,hc⟩:=I.ok.has x (.inl hk);obtain⟨w',z⟩:=I.cell x c hc;refine wpAny_storeName_cell I.ok.kind hk hc z (λ h' Pz hs=>?_);obtain⟨oc,UW,ab0⟩:=id z;refine h {s with heap:=h'} ⟨I.ok,I.os,I.jk,⟨λ b o e n hb hx=>?_,λ b o e n hb hx=>?_,I.base.free,λ b o e hx=>?_,I.base.zF,I.base.xX,I.base.xY⟩,⟨m,hn.sameBut hs (qb (UU x c hc)),λ j y v' e1 e2 e3=>?_⟩,λ y c' e=>?_,I.free,I.kW,λ p hp=>?_,tracked ⟨oc,UW,I.kW x c hc⟩ hs,by simpa using I.len⟩ ⟨c,hs,.inr hc⟩
  .exact(hs.2 b (jj (iY (dB e) (I.ok.XT x c UV hc)))).trans (I.base.keep b o e n hb hx)
  .obtain⟨sl,e1⟩:=I.base.slot b o e n hb hx;exact⟨sl,(hs.2 b (jj (iY (dB e) (I.ok.XT x c UV hc)))).trans e1⟩
  .obtain⟨o',e1⟩:=I.base.there b o e hx;exact⟨o',(hs.2 b (jj (iY (dB e) (I.ok.XT x c UV hc)))).trans e1⟩
  .by_cases hj:j=i
   .subst hj;rw[hi]at e1;cases e1;rw[qF hiσ]at e2;cases e2;exact⟨u,r,.inr ⟨.inl hk,c,hc,Pz⟩⟩
   .rw[o9 (qb hj)]at e2;obtain⟨u',r',q⟩:=hl j y v' e1 e2 e3;refine⟨u',r',?_⟩;rcases q with q|⟨k,c',e,z'⟩
    .exact .inl q
    .refine .inr ⟨k,c',e,z'.sameBut hs ?_⟩
     rintro rfl
     exact hj (vJ hN e1 (I.ok.inj _ _ _ e hc▸hi))
  .by_cases hcc:c'=c
   .subst hcc;exact⟨_,Pz⟩
   .obtain⟨w2,z2⟩:=I.cell y c' e;exact⟨w2,z2.sameBut hs hcc⟩
  .obtain⟨e,n,ne,nf,d⟩:=I.tR p hp;refine⟨(hs.2 p.1 ?_).trans e,n,ne,nf,d⟩;intro q;rw[q,UW]at e;have q':oc=p.2:=cT e;exact d w' (by rw[<-q'];exact ab0)
theorem vK{M:Ih}{A:cw}{E:aq ->ap ->Prop}{i:Nat}{x:Str}{v:V}{u:aq}{Q:Unit ->ap ->Prop}(I:aZ X pins σ H s)(hN:X.N.Nodup)(hi:X.N[i]?=some x)(hx:XS X.aC.scope x)(r:bT v u)
  (h:∀s',aZ X pins (σ.set i (some v)) H s' ->Q () s') (hf:X.fn x=true\/X.aC.scope.names.lookup x=some .local:=by first|exact .inl rfl|exact .inr rfl|assumption):wpAny M A (storeName X.aC x u) Q E s:=
 yu I hN hi hx r (λ s' I' _=>h s' I') hf
theorem aZ.XX{s':ap}{ch:List Addr}(I:aZ X pins σ H s)(ho:s'.os=s.os)(u:Un (Kn X.stack) ch H H' s.heap s'.heap)(db:qa X.prog X.w H' s'.heap)(hg:Ic s'.gens)
  (yt:∀b∈ch,(b∈X.ex\/X.x8.heap.objs.size<=b)/\b≠X.aC.locals/\(∀x c,X.aC.cells.lookup x=some c ->c≠b)/\∀p∈X.pn++pins,p.1≠b):aZ X pins σ H' s':=by
 obtain⟨h',g',d',t',o'⟩:=s';have e:o'=s.os:=ho;subst e;exact I.call (g':=g') (t':=t') (d':=d') u db hg yt
end
abbrev XK:=aq ->Option Addr ->Hp ->Prop
abbrev St:=List (Option V)
abbrev VK:=V ->Hp ->Prop
abbrev TE:=St ->Hp ->VK ->Prop
abbrev TT:=St ->Hp ->(Bool ->Hp ->Prop) ->Prop
abbrev TA:=St ->Hp ->(List V ->Hp ->Prop) ->Prop
structure vL where
 nx:St ->Hp ->Prop
 rt:VK
 bk:St ->Hp ->Prop:=λ _ _=>False
 ct:St ->Hp ->Prop:=λ _ _=>False
abbrev TS:=vL ->St ->Hp ->Prop
def EP(X:Cx)(pins:List (Addr×Obj))(σ:St)(Q:VK)(u:aq)(s':ap):Prop:=∃v H',aZ X pins σ H' s'/\bT v u/\Q v H'
def TP(X:Cx)(pins:List (Addr×Obj))(σ:St)(Q:Bool ->Hp ->Prop)(b:Bool)(s':ap):Prop:=∃H',aZ X pins σ H' s'/\Q b H'
def AP(X:Cx)(pins:List (Addr×Obj))(σ:St)(Q:List V ->Hp ->Prop)(us:List aq)(s':ap):Prop:=∃vs H',aZ X pins σ H' s'/\bv vs us/\Q vs H'
def SP(X:Cx)(pins:List (Addr×Obj))(D:vL)(f:Flow)(s':ap):Prop:=
 match f with
 |.next=>∃σ' H',aZ X pins σ' H' s'/\D.nx σ' H'
 |.brk=>∃σ' H',aZ X pins σ' H' s'/\D.bk σ' H'
 |.cont=>∃σ' H',aZ X pins σ' H' s'/\D.ct σ' H'
 |.ret u=>∃v σ' H',aZ X pins σ' H' s'/\bT v u/\D.rt v H'
def PE(X:Cx)(e:Expr)(t:TE):Prop:=
 ∀(pins:List (Addr×Obj))(s:ap)(σ:St)(H:Hp)(Q:VK),aZ X pins σ H s ->t σ H Q ->wpAny (model X.prog X.w) X.A (eval e X.aC) (EP X pins σ Q) X.xe s
def PT(X:Cx)(e:Expr)(t:TT):Prop:=
 ∀(pins:List (Addr×Obj))(s:ap)(σ:St)(H:Hp)(Q:Bool ->Hp ->Prop),aZ X pins σ H s ->t σ H Q ->wpAny (model X.prog X.w) X.A (isTrue e X.aC (eval e X.aC)) (TP X pins σ Q) X.xe s
def PW(X:Cx)(e:Expr)(t:TT):Prop:=
 ∀(whole:Sem aq)(pins:List (Addr×Obj))(s:ap)(σ:St)(H:Hp)(Q:Bool ->Hp ->Prop),aZ X pins σ H s ->t σ H Q ->wpAny (model X.prog X.w) X.A (isTrue e X.aC whole) (TP X pins σ Q) X.xe s
theorem PW.pt{X:Cx}{e:Expr}{t:TT}(h:PW X e t):PT X e t:=h _
def PA(X:Cx)(es:List Expr)(t:TA):Prop:=
 ∀(pos:Pos)(pins:List (Addr×Obj))(s:ap)(σ:St)(H:Hp)(Q:List V ->Hp ->Prop),aZ X pins σ H s ->t σ H Q ->wpAny (model X.prog X.w) X.A (spliced (backTo pos (starEach es X.aC))) (AP X pins σ Q) X.xe s
def PS(X:Cx)(st:Stmt)(t:TS):Prop:=
 ∀(pins:List (Addr×Obj))(s:ap)(σ:St)(H:Hp)(D:vL),aZ X pins σ H s ->t D σ H ->wpAny (model X.prog X.w) X.A (exec st X.aC) (SP X pins D) X.xe s
def F5(X:Cx)(st:List Stmt)(t:TS):Prop:=
 ∀(pins:List (Addr×Obj))(s:ap)(σ:St)(H:Hp)(D:vL),aZ X pins σ H s ->t D σ H ->wpAny (model X.prog X.w) X.A (execs st X.aC) (SP X pins D) X.xe s
theorem dQ{α:Type}{t:Sem α}{Q Q':α ->ap ->Prop}{M:Ih}{A:cw}{E:aq ->ap ->Prop}{s:ap}(h:wpAny M A t Q E s)(hQ:∀a s,Q a s ->Q' a s):wpAny M A t Q' E s:=o_ h hQ λ _ _ x=>x
end L2
namespace L2
open PySem PySem.Spec PyProof.Rows
section
variable{X:Cx}
def bQ(i:Nat):TE:=λ σ H Q=>∃v,σ[i]?=some (some v)/\Q v H
def tC(v:V):TE:=λ _ H Q=>Q v H
theorem UX{i:Nat}{x:Str}{pos:Pos}(hN:X.N[i]?=some x)(hv:US X.aC.scope x)(hd:(x==("__debug__":Str))=false:=by decide)(D8:(x==("__classdict__":Str))=false:=by decide):PE X (.Name x pos) (bQ i):=by
 intro pins s σ H Q I h;obtain⟨v,e,h⟩:=h;obtain⟨m,hn,hl⟩:=I.Bb;obtain⟨u,r,l⟩:=hl i x v hN e hv;have fin:EP X pins σ Q u s:=⟨v,H,I,r,h⟩;rcases l with⟨hk,hm⟩|⟨hk,c,hc,yx⟩
 .exact XY (ab1 I.ok.kind hk hn hm fin) hd
 .rcases hk with hk|hk
  .exact XY (ab2 I.ok.kind hk hc yx fin) hd
  .exact XY (wpAny_loadName_free I.ok.kind hk hc yx fin D8) hd
theorem am{i j pos}:PE X (.Constant (.int i) j pos) (tC (.int i)):=λ _ _ _ H _ I h=>wpAny_Constant_int ⟨.int i,H,I.Ig _,⟨_,rfl⟩,h⟩
theorem tS{b j pos}:PE X (.Constant (.bool b) j pos) (tC (.bl b)):=λ _ _ _ H _ I h=>XZ ⟨.bl b,H,I,rfl,h⟩
theorem fC{j pos}:PE X (.Constant .none j pos) (tC .bu):=λ _ _ _ H _ I h=>Constant_none ⟨.bu,H,I,rfl,h⟩
def Gl(X:Cx)(x:Str):Prop:=X.aC.kindOf x=some .globalImplicit
theorem vm{E:aq ->ap ->Prop}{pins:List (Addr×Obj)}{s:ap}{σ:St}{H:Hp}{x:Str}{u:aq}{pos:Pos}{Q:aq ->ap ->Prop}(I:aZ X pins σ H s)(hg:Gl X x)(hm:X.mg x=some u)(h:Q u s)
  (hd:(x==("__debug__":Str))=false:=by decide):wpAny (model X.prog X.w) X.A (eval (.Name x pos) X.aC) Q E s:=
 ab3 I.ok.kind hg (Calls.loadGlobal_global (by rw[I.ok.uP];exact I.mod.uP.keeps I.bk) hm h) hd
theorem jC{E:aq ->ap ->Prop}{pins:List (Addr×Obj)}{s:ap}{σ:St}{H:Hp}{x:Str}{u:aq}{pos:Pos}{Q:aq ->ap ->Prop}(I:aZ X pins σ H s)(hg:Gl X x)(hm:X.mg x=none)(hv:bootBuiltins x=some u)(h:Q u s)
  (hn:x≠"__name__":=by decide) (hd:(x==("__debug__":Str))=false:=by decide):wpAny (model X.prog X.w) X.A (eval (.Name x pos) X.aC) Q E s:=by
 obtain⟨mb,h1,h2⟩:=I.mod.blt;exact ab3 I.ok.kind hg (Calls.loadGlobal_builtin (by rw[I.ok.uP];exact I.mod.uP.keeps I.bk) hm (by rw[I.ok.blt];exact h1.keeps I.bk) ((h2 x hn).trans hv) h) hd
theorem b9{x:Str}{v:V}{u:aq}{pos:Pos}(hg:Gl X x)(hm:X.mg x=some u)(r:bT v u)(hd:(x==("__debug__":Str))=false:=by decide):PE X (.Name x pos) (tC v):=
 λ _ _ _ H _ I h=>vm I hg hm ⟨v,H,I,r,h⟩ hd
variable{a b:Expr}{ta tb:TE}{pos:Pos}
def PC(X:Cx)(op:D9)(a b:Expr)(t:TE):Prop:=
 ∀(pins:List (Addr×Obj))(s:ap)(σ:St)(H:Hp)(Q:VK),aZ X pins σ H s ->t σ H Q ->
  wpAny (model X.prog X.w) X.A (eval a X.aC) (λ v s₁=>wpAny (model X.prog X.w) X.A (eval b X.aC) (λ u s₂=>wpAny (model X.prog X.w) X.A (compareOp op v u) (EP X pins σ Q) X.xe s₂) X.xe s₁) X.xe s
theorem Kr(b:Expr){op:D9}(h:op≠.In)(h2:op≠.NotIn):behindInMarks op b=false:=by
 have e1:(op==CmpOp.In)=false:=by cases op<;>first|rfl|exact absurd rfl h
 have e2:(op==ab4)=false:=by cases op<;>first|rfl|exact absurd rfl h2
 cases b<;>simp[behindInMarks,e1,e2]
def ab5(ta:TE):TE:=λ σ H Q=>ta σ H λ x H1=>Q (.bl (decide (x=.bu))) H1
theorem bT.Ks{x:V}{v:aq}(r:bT x v):(v==xV)=decide (x=.bu):=by
 cases x with
 |bu=>cases r;rfl
 |bl _=>cases r;rfl
 |int _=>obtain⟨t,rfl⟩:=r;rfl
 |str _=>obtain⟨t,rfl⟩:=r;rfl
 |zE _=>obtain⟨t,rfl⟩:=r;rfl
 |XJ _=>obtain⟨t,rfl⟩:=r;rfl
 |ref _=>cases r;rfl
 |ty _=>cases r;rfl
theorem UY{j uR}(ha:PE X a ta):PC X .Is a (.Constant .none j uR) (ab5 ta):=by
 intro pins s σ H Q I h;refine dQ (ha pins s σ H _ I h) λ v s1 ⟨x,H1,I1,r1,q1⟩=>?_
 exact Constant_none (is_none_gen ⟨.bl _,H1,I1,by rw[r1.Ks];rfl,q1⟩)
def tB(t:TE):TT:=λ σ H Q=>t σ H λ x H1=>∃c,x=.bl c/\Q c H1
theorem UZ{op:D9}{t:TE}(h:PC X op a b t)(h1:behindInMarks op b=false:=by first|exact Kr _ zq_dc zq_dc|rfl):PT X (.Compare a [op] [b] pos) (tB t):=by
 intro pins s σ H Q I hw;refine ab6 (dQ (h pins s σ H _ I hw) λ v s1 h1=>dQ h1 λ u s2 h2=>dQ h2 λ c s3 ⟨x,H1,I1,r1,q1⟩=>?_) h1;obtain⟨d,rfl,q⟩:=q1;cases r1;exact Bq ⟨H1,I1,q⟩
theorem cx{e:Expr}{t:TE}(h:PE X e t)(he:∀whole,isTrue e X.aC whole=(do let v<-whole;standAt e.pos;holding [v] (truthy v)):=by intro _;rfl):PT X e (tB t):=by
 intro pins s σ H Q I hw;refine isTrue_plain (dQ (h pins s σ H _ I hw) λ v s1 ⟨x,H1,I1,r1,q1⟩=>?_) (he _);obtain⟨d,rfl,q⟩:=q1;cases r1;exact Bq ⟨H1,I1,q⟩
variable{tA tB':TT}{cC:List Expr}
def U0(t u:TT):TT:=λ σ H Q=>t σ H λ c H1=>if c=true then u σ H1 Q else Q false H1
def tOr(t u:TT):TT:=λ σ H Q=>t σ H λ c H1=>if c=true then Q true H1 else u σ H1 Q
def ab7(t:TT):TT:=λ σ H Q=>t σ H λ c H1=>Q (!c) H1
theorem lI(ha:PT X a tA):PW X (.BoolOp .And [a] pos) tA:=by
 intro wh pins s σ H Q I h;refine isTrue_and (dQ (ha pins s σ H Q I h) λ c s1 e=>?_);cases c with
 |true=>exact isTrue_and_nil e
 |false=>exact e
theorem m_(ha:PT X a tA):PW X (.BoolOp .Or [a] pos) tA:=by
 intro wh pins s σ H Q I h;refine isTrue_or (dQ (ha pins s σ H Q I h) λ c s1 e=>?_);cases c with
 |false=>exact isTrue_or_nil e
 |true=>exact e
theorem qd(ha:PT X a tA)(hb:PW X (.BoolOp .And (b::cC) pos) tB'):PW X (.BoolOp .And (a::b::cC) pos) (U0 tA tB'):=by
 intro wh pins s σ H Q I h;refine isTrue_and (dQ (ha pins s σ H _ I h) λ c s1 ⟨H1,I1,q1⟩=>?_);cases c with
 |true=>exact hb wh pins s1 σ H1 Q I1 q1
 |false=>exact⟨H1,I1,q1⟩
theorem tT(ha:PT X a tA)(hb:PW X (.BoolOp .Or (b::cC) pos) tB'):PW X (.BoolOp .Or (a::b::cC) pos) (tOr tA tB'):=by
 intro wh pins s σ H Q I h;refine isTrue_or (dQ (ha pins s σ H _ I h) λ c s1 ⟨H1,I1,q1⟩=>?_);cases c with
 |true=>exact⟨H1,I1,q1⟩
 |false=>exact hb wh pins s1 σ H1 Q I1 q1
theorem dw(ha:PT X a tA):PT X (.UnaryOp .Not a pos) (ab7 tA):=by
 intro pins s σ H Q I h;exact isTrue_not (ha pins s σ H (λ c H1=>Q (!c) H1) I h)
def X0(ta tb:TE):TE:=λ σ H Q=>ta σ H λ x H1=>∃c,x=.bl c/\if c=true then tb σ H1 Q else Q (.bl false) H1
def ab8(ta tb:TE):TE:=λ σ H Q=>ta σ H λ x H1=>∃c,x=.bl c/\if c=true then Q (.bl true) H1 else tb σ H1 Q
theorem Kt{op}{t:TE}(h:PE X a t):PE X (.BoolOp op [a] pos) t:=λ pins s σ H Q I hw=>BoolOp_one (h pins s σ H Q I hw)
theorem U1(ha:PE X a ta)(hb:PE X (.BoolOp .And (b::cC) pos) tb):PE X (.BoolOp .And (a::b::cC) pos) (X0 ta tb):=by
 intro pins s σ H Q I h;refine BoolOp_and (dQ (ha pins s σ H _ I h) λ v s1 ⟨x,H1,I1,r1,q1⟩=>?_);obtain⟨c,rfl,q1⟩:=q1;cases r1;refine Bq ?_;cases c with
 |true=>exact hb pins s1 σ H1 Q I1 q1
 |false=>exact⟨.bl false,H1,I1,rfl,q1⟩
theorem X1(ha:PE X a ta)(hb:PE X (.BoolOp .Or (b::cC) pos) tb):PE X (.BoolOp .Or (a::b::cC) pos) (ab8 ta tb):=by
 intro pins s σ H Q I h;refine BoolOp_or (dQ (ha pins s σ H _ I h) λ v s1 ⟨x,H1,I1,r1,q1⟩=>?_);obtain⟨c,rfl,q1⟩:=q1;cases r1;refine Bq ?_;cases c with
 |false=>exact hb pins s1 σ H1 Q I1 q1
 |true=>exact⟨.bl true,H1,I1,rfl,q1⟩
def tIf(t:TT)(ta tb:TE):TE:=λ σ H Q=>t σ H λ c H1=>if c=true then ta σ H1 Q else tb σ H1 Q
theorem qG{c:Expr}(hc:PT X c tA)(ha:PE X a ta)(hb:PE X b tb):PE X (.IfExp c a b pos) (tIf tA ta tb):=by
 intro pins s σ H Q I h;refine wpAny_IfExp (dQ (hc pins s σ H _ I h) λ d s1 ⟨H1,I1,q1⟩=>?_);cases d with
 |true=>exact ha pins s1 σ H1 Q I1 q1
 |false=>exact hb pins s1 σ H1 Q I1 q1
end
end L2
namespace L2
open PySem PySem.Spec PyProof.Rows
def aP(K:aE)(H:Hp)(a:Addr)(xs:List V):Prop:=
 Rd H a (.aD xs)\/
  ∃(o:Obj)(bb:Array aq)(n:Nat),K.lookup a=some o/\o.cls=.type "list"/\o.dict=none/\o.data=.seq bb n/\bb.size<=sizeLine/\bv xs bb.toList
def e9(K:aE)(H:Hp)(a:Addr)(xs:List V):Prop:=
 Rd H a (.fc xs)\/
  ∃(o:Obj)(bb:Array aq)(n:Nat),K.lookup a=some o/\o.cls=.type "tuple"/\o.data=.seq bb n/\bb.size<=sizeLine/\bv xs bb.toList
def U2:aq ->Option V
 |.none=>some .bu
 |.bool b=>some (.bl b)
 |.int i _=>some (.int i)
 |.str x _=>some (.str x)
 |.bytes b _=>some (.zE b)
 |.float b _=>some (.XJ b)
 |.ref a=>some (.ref a)
 |.type n=>some (.ty n)
 |_=>none
theorem bT.abs{x:V}{u:aq}(r:bT x u):U2 u=some x:=by
 cases x with
 |bu=>cases r;rfl
 |bl _=>cases r;rfl
 |int _=>obtain⟨t,rfl⟩:=r;rfl
 |str _=>obtain⟨t,rfl⟩:=r;rfl
 |zE _=>obtain⟨t,rfl⟩:=r;rfl
 |XJ _=>obtain⟨t,rfl⟩:=r;rfl
 |ref _=>cases r;rfl
 |ty _=>cases r;rfl
theorem bT.inj{x y:V}{u:aq}(r:bT x u)(q:bT y u):x=y:=cT (r.abs.symm.trans q.abs)
theorem bv.inj:∀{xs ys:List V}{us:List aq},bv xs us ->bv ys us ->xs=ys
 |_,_,_,.nil,.nil=>rfl
 |_,_,_,.cons r t,.cons r' t'=>by rw[r.inj r',bv.inj t t']
section
variable{X:Cx}{pins:List (Addr×Obj)}{σ:St}{H:Hp}{s:ap}{a:Addr}{xs ys:List V}
theorem aP.of{K:aE}(h:H a=some (.aD xs)):aP K H a xs:=.inl (.inl h)
theorem e9.of{K:aE}(h:H a=some (.fc xs)):e9 K H a xs:=.inl (.inl h)
theorem aZ.list(I:aZ X pins σ H s)(h:aP X.K H a xs):∃bb:List aq,bv xs bb/\PlainL s.heap a bb.toArray/\xs.length<=sizeLine:=by
 rcases h with h|⟨o,bb,n,hk,hc,hd,hs,hz,r⟩
 .obtain⟨z,bb,n,r,e⟩:=h.ok I.db;exact⟨bb,r,⟨_,n,e,rfl,rfl,rfl⟩,z⟩
 .refine⟨bb.toList,r,⟨o,n,I.Bc a o hk,hc,hd,by simpa using hs⟩,?_⟩;have e:=r.length;simp only[zH]at e;omega
theorem aZ.tuple(I:aZ X pins σ H s)(h:e9 X.K H a xs):∃bb:List aq,bv xs bb/\IsTup s.heap a bb.toArray/\xs.length<=sizeLine:=by
 rcases h with h|⟨o,bb,n,hk,hc,hs,hz,r⟩
 .obtain⟨z,bb,r,p⟩:=h.ok I.db;exact⟨bb,r,p,z⟩
 .refine⟨bb.toList,r,⟨o,I.Bc a o hk,hc,n,by simpa using hs⟩,?_⟩;have e:=r.length;simp only[zH]at e;omega
theorem aZ.nc(I:aZ X pins σ H s)(h:aP X.K H a xs)(h':aP X.K H a ys):xs=ys:=by
 obtain⟨bb,r,⟨o,n,e,_,_,d⟩,_⟩:=I.list h;obtain⟨its',r',⟨o',n',e',_,_,d'⟩,_⟩:=I.list h';rw[e]at e';cases e';rw[d]at d'
 injection d' with d1 _
 have:bb=its':=by simpa using congrArg X2 d1
 subst this;exact r.inj r'
theorem aZ.Ij(I:aZ X pins σ H s)(h:e9 X.K H a xs)(h':e9 X.K H a ys):xs=ys:=by
 obtain⟨bb,r,⟨o,e,_,n,d⟩,_⟩:=I.tuple h;obtain⟨its',r',⟨o',e',_,n',d'⟩,_⟩:=I.tuple h';rw[e]at e';cases e';rw[d]at d'
 injection d' with d1 _
 have:bb=its':=by simpa using congrArg X2 d1
 subst this;exact r.inj r'
end
abbrev Cx.x9(X:Cx)(E:aq ->ap ->Prop):Cx:={X with xe:=E}
abbrev Cx.dJ(X:Cx):Cx:=X.x9 λ _ _=>False
theorem Cx.Ok.x9{X:Cx}(ok:X.Ok)(E:aq ->ap ->Prop):(X.x9 E).Ok:=
 ⟨ok.mod,ok.kind,ok.uP,ok.blt,ok.above,ok.inj,ok.has,ok.XT,ok.hd,ok.frames,ok.stk,ok.exf,ok.bs,ok.Pk,ok.Ko,ok.Kp,ok.uQ,ok.UT⟩
theorem Cx.Ok.nh{X:Cx}{E:aq ->ap ->Prop}(ok:(X.x9 E).Ok):X.Ok:=
 ⟨ok.mod,ok.kind,ok.uP,ok.blt,ok.above,ok.inj,ok.has,ok.XT,ok.hd,ok.frames,ok.stk,ok.exf,ok.bs,ok.Pk,ok.Ko,ok.Kp,ok.uQ,ok.UT⟩
section
variable{X:Cx}{pins:List (Addr×Obj)}{σ:St}{H:Hp}{s:ap}{E:aq ->ap ->Prop}
theorem aZ.x9(I:aZ X pins σ H s)(E:aq ->ap ->Prop):aZ (X.x9 E) pins σ H s:=⟨I.ok.x9 E,I.os,I.jk,I.base,I.Bb,I.cell,I.free,I.kW,I.tR,I.db,I.len⟩
theorem aZ.nh(I:aZ (X.x9 E) pins σ H s):aZ X pins σ H s:=⟨I.ok.nh,I.os,I.jk,I.base,I.Bb,I.cell,I.free,I.kW,I.tR,I.db,I.len⟩
theorem SP.nh{D:vL}{f:Flow}{s':ap}(h:SP (X.x9 E) pins D f s'):SP X pins D f s':=by
 cases f with
 |next=>obtain⟨σ',H',I,q⟩:=h;exact⟨σ',H',I.nh,q⟩
 |brk=>obtain⟨σ',H',I,q⟩:=h;exact⟨σ',H',I.nh,q⟩
 |cont=>obtain⟨σ',H',I,q⟩:=h;exact⟨σ',H',I.nh,q⟩
 |ret u=>obtain⟨v,σ',H',I,r,q⟩:=h;exact⟨v,σ',H',I.nh,r,q⟩
theorem F5.dJ{st:List Stmt}{t:TS}(h:F5 X.dJ st t):F5 X st t:=λ pins s σ H D I hw=>
 o_ (h pins s σ H D (I.x9 _) hw) (λ _ _ q=>q.nh) λ _ _ z=>jZ z
end
section
variable{X:Cx}{st:Stmt}{cC:List Stmt}{t u:TS}{e:Expr}{te:TE}{pos:Pos}
def X3:TS:=λ D σ H=>D.nx σ H
def U3(t u:TS):TS:=λ D σ H=>t {D with nx:=u D} σ H
theorem aK:F5 X [] X3:=λ _ _ σ H _ I h=>U4 ⟨σ,H,I,h⟩
theorem ab(h1:PS X st t)(h2:F5 X cC u):F5 X (st::cC) (U3 t u):=by
 intro pins s σ H D I h;refine ab9 (dQ (h1 pins s σ H {D with nx:=u D} I h) λ f s1 q=>?_);cases f with
 |next=>
  obtain⟨σ',H',I',q⟩:=q;exact h2 pins s1 σ' H' D I' q
 |ret v=>exact q
 |brk=>exact q
 |cont=>exact q
theorem af(h1:PS X st t):F5 X [st] t:=by
 intro pins s σ H D I h;refine ab9 (dQ (h1 pins s σ H D I h) λ f s1 q=>?_);cases f with
 |next=>exact U4 q
 |ret v=>exact q
 |brk=>exact q
 |cont=>exact q
def U5:TS:=λ D σ H=>D.bk σ H
theorem Ku:PS X (.Break pos) U5:=λ _ _ σ H _ I h=>wpAny_Break ⟨σ,H,I,h⟩
theorem aZ.quiet{pins:List (Addr×Obj)}{σ:St}{H:Hp}{s:ap}(I:aZ X pins σ H s):interactive X.aC=false:=by simp[interactive,I.ok.kind]
def Kv(te:TE):TS:=λ D σ H=>te σ H λ _ H1=>D.nx σ H1
theorem bz(he:PE X e te)(hs:swapsWith e none pos.line X.aC=pure false:=by rfl):PS X (.Expr e pos) (Kv te):=by
 intro pins s σ H D I h;exact wpAny_Expr_any (dQ (he pins s σ H _ I h) λ v s1 ⟨x,H1,I1,r1,q1⟩=>⟨σ,H1,I1,q1⟩) I.quiet hs
def aca(te:TE):TS:=λ D σ H=>te σ H D.rt
theorem aw(he:PE X e te):PS X (.Return (some e) pos) (aca te):=by
 intro pins s σ H D I h;exact wpAny_Return_some (dQ (he pins s σ H _ I h) λ v s1 ⟨x,H1,I1,r1,q1⟩=>⟨x,σ,H1,I1,r1,q1⟩)
def X4:TS:=λ D _ H=>D.rt .bu H
theorem vn:PS X (.Return none pos) X4:=λ _ _ σ H _ I h=>wpAny_Return_none ⟨.bu,σ,H,I,rfl,h⟩
def Kw(c:TT)(t u:TS):TS:=λ D σ H=>c σ H λ b H1=>if b=true then t D σ H1 else u D σ H1
theorem br{c:Expr}{a b:List Stmt}{tc:TT}(hc:PT X c tc)(ha:F5 X a t)(hb:F5 X b u):PS X (.If c a b pos) (Kw tc t u):=by
 intro pins s σ H D I h;refine wpAny_If (dQ (hc pins s σ H _ I h) λ d s1 ⟨H1,I1,q1⟩=>?_);cases d with
 |true=>exact ha pins s1 σ H1 D I1 q1
 |false=>exact hb pins s1 σ H1 D I1 q1
end
abbrev TG:=V ->St ->Hp ->(St ->Hp ->Prop) ->Prop
abbrev U6:=List V ->St ->Hp ->(St ->Hp ->Prop) ->Prop
def PG(X:Cx)(target:Expr)(t:TG):Prop:=
 ∀(pins:List (Addr×Obj))(s:ap)(σ:St)(H:Hp)(v:V)(u:aq)(Q:St ->Hp ->Prop),aZ X pins σ H s ->bT v u ->t v σ H Q ->
  wpAny (model X.prog X.w) X.A (assign target X.aC u) (λ _ s'=>∃σ' H',aZ X pins σ' H' s'/\Q σ' H') X.xe s
def PGs(X:Cx)(ts:List Expr)(t:U6):Prop:=
 ∀(pins:List (Addr×Obj))(s:ap)(σ:St)(H:Hp)(vs:List V)(us:List aq)(Q:St ->Hp ->Prop),aZ X pins σ H s ->bv vs us ->t vs σ H Q ->
  wpAny (model X.prog X.w) X.A (assignInOrder ((assignEach ts X.aC).map (·.2)) us) (λ _ s'=>∃σ' H',aZ X pins σ' H' s'/\Q σ' H') X.xe s
abbrev Kx:=V ->V ->V ->Hp ->(Hp ->Prop) ->Prop
def U7(X:Cx)(t:Kx):Prop:=
 ∀(pins:List (Addr×Obj))(s:ap)(σ:St)(H:Hp)(o i v:V)(ov iv u:aq)(Q:Hp ->Prop),aZ X pins σ H s ->bT o ov ->bT i iv ->bT v u ->t o i v H Q ->
  wpAny (model X.prog X.w) X.A (setItem ov iv u) (λ _ s'=>∃H',aZ X pins σ H' s'/\Q H') X.xe s
abbrev Xe:=V ->V ->Hp ->VK ->Prop
def PIp(X:Cx)(op:Ky)(t:Xe):Prop:=
 ∀(pins:List (Addr×Obj))(s:ap)(σ:St)(H:Hp)(x y:V)(v u:aq)(Q:VK),aZ X pins σ H s ->bT x v ->bT y u ->t x y H Q ->
  wpAny (model X.prog X.w) X.A (inplaceOp op v u) (EP X pins σ Q) X.xe s
section
variable{X:Cx}{pos:Pos}
def nj(i:Nat):TG:=λ v σ H Q=>Q (σ.set i (some v)) H
theorem aU{i:Nat}{x:Str}(hN:X.N.Nodup)(hi:X.N[i]?=some x)(hx:XS X.aC.scope x)(hf:X.fn x=true\/X.aC.scope.names.lookup x=some .local:=by first|exact .inl rfl|exact .inr rfl|assumption):PG X (.Name x pos) (nj i):=by
 intro pins s σ H v u Q I r h;exact acb (vK I hN hi hx r (λ s' I'=>⟨_,H,I',h⟩) hf)
def PB:U6:=λ vs σ H Q=>vs=[]/\Q σ H
def vM(t:TG)(u:U6):U6:=λ vs σ H Q=>∃v r,vs=v::r/\t v σ H λ σ' H'=>u r σ' H' Q
theorem oS:PGs X [] PB:=by
 intro pins s σ H vs us Q I r h;obtain⟨e,h⟩:=h;subst e;cases r;exact assignInOrder_nil ⟨σ,H,I,h⟩
theorem eU{e:Expr}{es:List Expr}{t:TG}{u:U6}(h1:PG X e t)(h2:PGs X es u)
  (hs:(assignEach (e::es) X.aC).map (·.2)=assign e X.aC::(assignEach es X.aC).map (·.2):=by rfl):PGs X (e::es) (vM t u):=by
 intro pins s σ H vs us Q I r h;obtain⟨v,vr,e1,h⟩:=h;subst e1;cases r with
 |cons r rr=>
  rw[hs];refine assignInOrder_cons (dQ (h1 pins s σ H _ _ _ I r h) λ _ s1 ⟨σ1,H1,I1,q1⟩=>?_);exact h2 pins s1 σ1 H1 _ _ Q I1 rr q1
def PD(K:aE)(n:Nat)(t:U6):TG:=λ v σ H Q=>∃a xs,v=.ref a/\e9 K H a xs/\xs.length=n/\t xs σ H Q
theorem sC{es:List Expr}{k:Nat}{t:U6}{n:Nat}(hc:X.mS=true)(h:PGs X es t)
  (hn:(assignEach es X.aC).length=n:=by rfl) (vo:(assignEach es X.aC).findIdx? (·.1)=none:=by rfl):PG X (.Tuple es k pos) (PD X.K n t):=by
 intro pins s σ H v u Q I r hw;obtain⟨a,xs,e1,hq,hl,hw⟩:=hw;subst e1;cases r;obtain⟨bb,rv,ht,hz⟩:=I.tuple hq;refine assign_Tuple_tuple (I.ok.hd hc) ht (by simp[hn,<-hl,rv.length]) vo λ h' hx=>?_
 have I1:aZ X pins σ H {s with heap:=h'}:=I.fw (t':=s.toks) λ b o e=>hx b o (jj (dB e)) e
 exact h pins _ σ H xs _ Q I1 (by simpa using rv) hw
def acd(to ti:TE)(t:Kx):TG:=λ v σ H Q=>to σ H λ o H1=>ti σ H1 λ i H2=>t o i v H2 λ H3=>Q σ H3
theorem U8{o i:Expr}{to ti:TE}{t:Kx}(ho:PE X o to)(hi:PE X i ti)(hs:U7 X t)
  (ha:∀v,assign (.Subscript o i pos) X.aC v=(do
   let ov<-holding [v] (eval o X.aC)
   let iv<-holding [v,ov] (eval i X.aC)
   standAt pos
   holding [v,ov,iv] (setItem ov iv v)
   release [v,ov,iv] []):=by intro _;rfl):PG X (.Subscript o i pos) (acd to ti t):=by
 intro pins s σ H v u Q I r h;rw[ha];refine az (uS (dQ (ho pins s σ H _ I h) λ ov s1 ⟨x,H1,I1,r1,q1⟩=>?_));refine az (uS (dQ (hi pins s1 σ H1 _ I1 q1) λ iv s2 ⟨y,H2,I2,r2,q2⟩=>?_));refine az (U9 (az (uS (dQ (hs pins s2 σ H2 x y v ov iv u _ I2 r1 r2 r q2) λ _ s3 ⟨H3,I3,q3⟩=>?_))));exact wpAny_release ⟨σ,H3,I3,q3⟩
def PF(te:TE)(g:TG):TS:=λ D σ H=>te σ H λ x H1=>g x σ H1 D.nx
theorem U_{tg e:Expr}{te:TE}{g:TG}(he:PE X e te)(hg:PG X tg g)(hs:swapsWithSole [tg] e pos.line X.aC=pure false:=by rfl)(hw:swappedStores [tg] e X.aC=pure none:=by rfl)
  (h1:(assignEach [tg] X.aC).map (·.2)=[assign tg X.aC]:=by rfl):PS X (.Assign [tg] e pos) (PF te g):=by
 intro pins s σ H D I h;refine wpAny_Assign_stores (dQ (he pins s σ H _ I h) λ v s1 ⟨x,H1,I1,r1,q1⟩=>?_) hs hw;rw[h1];exact dQ (hg pins s1 σ H1 x v _ I1 r1 q1) λ _ s2 q=>q
theorem bg{i:Nat}{x:Str}{e:Expr}{te:TE}{uR:Pos}(hN:X.N.Nodup)(hi:X.N[i]?=some x)(hx:XS X.aC.scope x)(he:PE X e te)(hs:swapsWith e (some (.Name x uR)) pos.line X.aC=pure false:=by rfl)(hf:X.fn x=true\/X.aC.scope.names.lookup x=some .local:=by first|exact .inl rfl|exact .inr rfl|assumption):
  PS X (.Assign [.Name x uR] e pos) (PF te (nj i)):=by
 intro pins s σ H D I h;refine wpAny_Assign_Name (dQ (he pins s σ H _ I h) λ v s1 ⟨y,H1,I1,r1,q1⟩=>?_) hs;exact vK I1 hN hi hx r1 (λ s2 I2=>⟨_,H1,I2,q1⟩) hf
def ace(i:Nat)(te:TE)(ti:Xe):TS:=λ D σ H=>∃x,σ[i]?=some (some x)/\te σ H λ y H1=>ti x y H1 λ z H2=>D.nx (σ.set i (some z)) H2
theorem D_{i:Nat}{x:Str}{e:Expr}{te:TE}{op:Ky}{ti:Xe}{uR:Pos}(hN:X.N.Nodup)(hi:X.N[i]?=some x)(hx:XS X.aC.scope x)(he:PE X e te)(ho:PIp X op ti)(hf:X.fn x=true\/X.aC.scope.names.lookup x=some .local:=by first|exact .inl rfl|exact .inr rfl|assumption):
  PS X (.AugAssign (.Name x uR) op e pos) (ace i te ti):=by
 intro pins s σ H D I h;obtain⟨v,e1,h⟩:=h;obtain⟨m,hn,hl⟩:=I.Bb;have vis:US X.aC.scope x:=by rcases hx with k|k;exact .inl k;exact .inr (.inl k)
 obtain⟨u,r,l⟩:=hl i x v hi e1 vis;refine wpAny_AugAssign_Name ?_;have go:wpAny (model X.prog X.w) X.A (eval e X.aC) (λ w s₂=>wpAny (model X.prog X.w) X.A (inplaceOp op u w) (λ r s₃=>wpAny (model X.prog X.w) X.A (storeName X.aC x r) (λ _=>SP X pins D .next) X.xe s₃) X.xe s₂) X.xe s:=by
  refine dQ (he pins s σ H _ I h) λ w s1 ⟨y,H1,I1,r1,q1⟩=>?_
  refine dQ (ho pins s1 σ H1 v y u w _ I1 r r1 q1) λ z s2 ⟨zv,H2,I2,r2,q2⟩=>?_
  exact vK I2 hN hi hx r2 (λ s3 I3=>⟨_,H2,I3,q2⟩) hf
 rcases l with⟨hk,hm⟩|⟨hk,c,hc,yx⟩
 .exact ab1 I.ok.kind hk hn hm go
 .rcases hk with hk|hk
  .exact ab2 I.ok.kind hk hc yx go
  .rcases hx with k|k
   .have:X.aC.scope.names.lookup x=some .free:=hk;rw[k]at this;cases this
   .have:X.aC.scope.names.lookup x=some .free:=hk;rw[k]at this;cases this
def X5(to ti te:TE)(PH:V ->V ->Hp ->VK ->Prop)(tip:Xe)(PK:Kx):TS:=λ D σ H=>to σ H λ o H1=>ti σ H1 λ i H2=>PH o i H2 λ x H3=>te σ H3 λ y H4=>tip x y H4 λ z H5=>PK o i z H5 λ H6=>D.nx σ H6
def X6(X:Cx)(t:V ->V ->Hp ->VK ->Prop):Prop:=
 ∀(pins:List (Addr×Obj))(s:ap)(σ:St)(H:Hp)(o i:V)(ov iv:aq)(Q:VK),aZ X pins σ H s ->bT o ov ->bT i iv ->t o i H Q ->
  wpAny (model X.prog X.w) X.A (getItem ov iv) (EP X pins σ Q) X.xe s
theorem zI{o i e:Expr}{to ti te:TE}{PH:V ->V ->Hp ->VK ->Prop}{tip:Xe}{PK:Kx}{op:Ky}{pb:Pos}(ho:PE X o to)(hi:PE X i ti)(hg:X6 X PH)(he:PE X e te)(hp:PIp X op tip)(hs:U7 X PK)
  (ha:∀ov iv new,augStore i ov iv new=(do holding [new,ov,iv] (setItem ov iv new);release [new,ov,iv] [];pure .next):=by intros;rfl):PS X (.AugAssign (.Subscript o i pb) op e pos) (X5 to ti te PH tip PK):=by
 intro pins s σ H D I h;refine wpAny_AugAssign_SubscriptAny (dQ (ho pins s σ H _ I h) λ ov s1 ⟨x1,H1,I1,r1,q1⟩=>?_) ha;refine dQ (hi pins s1 σ H1 _ I1 q1) λ iv s2 ⟨x2,H2,I2,r2,q2⟩=>?_
 refine dQ (hg pins s2 σ H2 x1 x2 ov iv _ I2 r1 r2 q2) λ old s3 ⟨x3,H3,I3,r3,q3⟩=>?_
 refine dQ (he pins s3 σ H3 _ I3 q3) λ v s4 ⟨x4,H4,I4,r4,q4⟩=>?_
 refine dQ (hp pins s4 σ H4 x3 x4 old v _ I4 r3 r4 q4) λ new s5 ⟨x5,H5,I5,r5,q5⟩=>?_
 exact dQ (hs pins s5 σ H5 x1 x2 x5 ov iv new _ I5 r1 r2 r5 q5) λ _ s6 ⟨H6,I6,q6⟩=>⟨σ,H6,I6,q6⟩
def ipI(f:Int ->Int ->Int):Xe:=λ x y H Q=>∃i j,x=.int i/\y=.int j/\Q (.int (f i j)) H
theorem vN:PIp X .Add (ipI λ i j=>i+j):=by
 intro pins s σ H x y v u Q I r1 r2 h;obtain⟨i,j,e1,e2,q⟩:=h;subst e1;subst e2;obtain⟨t,rfl⟩:=r1;obtain⟨t',rfl⟩:=r2;exact acf ⟨.int _,H,I.Ig _,⟨_,rfl⟩,q⟩
theorem Va:PIp X .Sub (ipI λ i j=>i -j):=by
 intro pins s σ H x y v u Q I r1 r2 h;obtain⟨i,j,e1,e2,q⟩:=h;subst e1;subst e2;obtain⟨t,rfl⟩:=r1;obtain⟨t',rfl⟩:=r2;exact acg ⟨.int _,H,I.Ig _,⟨_,rfl⟩,q⟩
end
section
variable{X:Cx}{pos:Pos}
def Kz(c:TT)(tb:TS):TS:=λ D σ H=>∃W:Nat ->St ->Hp ->Prop,(∃m,W m σ H)/\∀m σ H,W m σ H ->
 c σ H λ b H1=>if b=true then∃N:St ->Hp ->Prop,(∀σ' H',N σ' H' ->∃m',m'<m/\W m' σ' H')/\tb {D with nx:=N,ct:=N,bk:=D.nx} σ H1 else D.nx σ H1
theorem nu{c:Expr}{body:List Stmt}{tc:TT}{tb:TS}(hp:PassesOwn (model X.prog X.w) X.A X.aC X.xe)(hc:PT X c tc)(hb:F5 X body tb):PS X (.While c body [] pos) (Kz tc tb):=by
 intro pins s σ H D I h;obtain⟨W,⟨m0,w0⟩,turn⟩:=h;refine wpAny_While (codeAny_whileLoop (λ n s'=>∃σ' H',aZ X pins σ' H' s'/\W n σ' H') ?_ m0 ⟨σ,H,I,w0⟩)
 rintro n s1 ⟨σ1,H1,I1,w1⟩
 refine Ik hp (dQ (hc pins s1 σ1 H1 _ I1 (turn n σ1 H1 w1)) λ b s2 ⟨H2,I2,q2⟩=>?_);cases b with
 |true=>
  obtain⟨N,hN,q2⟩:=q2;rw[au rfl];refine Ik hp (dQ (hb pins s2 σ1 H2 _ I2 q2) λ f s3 q3=>?_);cases f with
  |next=>
   obtain⟨σ3,H3,I3,n3⟩:=q3;obtain⟨m',hm,w3⟩:=hN σ3 H3 n3;exact⟨m',hm,σ3,H3,I3,w3⟩
  |cont=>
   obtain⟨σ3,H3,I3,n3⟩:=q3;obtain⟨m',hm,w3⟩:=hN σ3 H3 n3;exact⟨m',hm,σ3,H3,I3,w3⟩
  |brk=>exact q3
  |ret v=>exact q3
 |false=>
  rw[ao iH];exact U4 ⟨σ1,H2,I2,q2⟩
end
structure It where
 go:Nat ->Hp ->Prop
 zJ:Nat ->Hp ->V ->Hp ->Prop
 stop:Nat ->Hp ->Prop
def fA(X:Cx)(pins:List (Addr×Obj))(H:Hp)(b:Addr):Prop:=
 H b=none/\b≠X.aC.locals/\b∉X.fs/\(b∈X.ex\/X.x8.heap.objs.size<=b)/\(∀x c,X.aC.cells.lookup x=some c ->c≠b)/\∀p∈X.pn++pins,p.1≠b
theorem aZ.qe{X:Cx}{pins:List (Addr×Obj)}{σ:St}{H H':Hp}{s:ap}{b:Addr}(I:aZ X pins σ H s)(hb:s.heap.objs.size<=b)(hn:H' b=none):fA X pins H' b:=by
 refine⟨hn,zK (iY I.lt hb),I.abW hb,.inr (fB I.sz hb),λ x c e z=>?_,λ p hp z=>?_⟩
 .obtain⟨v,q⟩:=I.cell x c e;exact absurd (iY q.lt (by rw[z];exact hb)) (vI _)
 .exact absurd (iY (dB (I.tR p hp).1) (by rw[z];exact hb)) (vI _)
structure Br(P:dz)(w:c9)(K:aE)(tg:Expr)(J:It)(fp:List Addr)(it:Addr)(tn:Nat ->Heap ->Prop):Prop where
 mem:it∈fp
 obj:∀i h,tn i h ->∀b∈fp,∃o,h.get? b=some o/\∀v,o.data≠.cell v
 keep:∀i h h',tn i h ->(∀b∈fp,∀o,h.get? b=some o ->h'.get? b=some o) ->tn i h'
 item:∀(X:Cx),X.prog=P ->X.w=w ->X.K=K ->X.mS=true ->∀(i:Nat)(pins:List (Addr×Obj))(s:ap)(σ:St)(H:Hp)(E:aq ->ap ->Prop),aZ X pins σ H s ->(∀b∈fp,fA X pins H b) ->tn i s.heap ->J.go i H ->
  wpAny (model P w) X.A (pyNext (.ref it)) (λ r s1=>∃u,r=some u/\
   wpAny (model P w) X.A (letOwnedTupleGo tg (.ref it) u) (λ _ s2=>∃x H',aZ X pins σ H' s2/\bT x u/\J.zJ i H x H'/\tn (i+1) s2.heap/\∀b∈fp,H' b=none) E s1) E s
 done:∀(X:Cx),X.prog=P ->X.w=w ->X.K=K ->X.mS=true ->∀(i:Nat)(pins:List (Addr×Obj))(s:ap)(σ:St)(H:Hp)(E:aq ->ap ->Prop),aZ X pins σ H s ->(∀b∈fp,fA X pins H b) ->tn i s.heap ->J.stop i H ->
  wpAny (model P w) X.A (pyNext (.ref it)) (λ r s1=>r=none/\aZ X pins σ H s1) E s
 self:∀(A:cw)(i:Nat)(s:ap)(Q:aq ->ap ->Prop)(E:aq ->ap ->Prop),tn i s.heap ->Q (.ref it) s ->wpAny (model P w) A (pyIter (.ref it)) Q E s
abbrev TI:=St ->Hp ->(It ->Hp ->Prop) ->Prop
def PIE(X:Cx)(pins:List (Addr×Obj))(σ:St)(tg:Expr)(R:It ->Hp ->Prop)(itv:aq)(s2:ap):Prop:=
 ∃(it:Addr)(fp:List Addr)(tn:Nat ->Heap ->Prop)(J:It)(H':Hp),itv=.ref it/\aZ X pins σ H' s2/\Br X.prog X.w X.K tg J fp it tn/\tn 0 s2.heap/\(∀b∈fp,fA X pins H' b)/\R J H'
def PI(X:Cx)(tg iter:Expr)(wi:TI):Prop:=
 ∀(pins:List (Addr×Obj))(s:ap)(σ:St)(H:Hp)(R:It ->Hp ->Prop),aZ X pins σ H s ->wi σ H R ->
  wpAny (model X.prog X.w) X.A (eval iter X.aC) (λ v s1=>wpAny (model X.prog X.w) X.A (pyIter v) (PIE X pins σ tg R) X.xe s1) X.xe s
theorem KA{M:Ih}{A:cw}{E:aq ->ap ->Prop}{s:ap}{tg:Expr}{it:Addr}{u:aq}{o:Obj}{n:String}{vs:Array aq}{Q:Unit ->ap ->Prop}(ho:s.heap.get? it=some o)(hc:o.cls=.type n)(hd:o.data=.fields vs)
  (hn:["enumerate","zip","dict_itemiterator","dict_reverseitemiterator","odict_iterator","itertools.zip_longest","itertools.pairwise"].contains n=false) (hQ:Q () s):wpAny M A (letOwnedTupleGo tg (.ref it) u) Q E s:=by
 unfold letOwnedTupleGo;cases tg<;>first
  |exact bY hQ
  |(cases u<;>first
    |exact bY hQ
    |(refine az (wpAny_load ho ?_)
      rw[hc,hd];show wpAny M A (if(["enumerate","zip","dict_itemiterator","dict_reverseitemiterator","odict_iterator","itertools.zip_longest","itertools.pairwise"].contains n&&vs[0]?==some (rawInt _))=true then _ else _) Q E s;rw[ao (by intro h;rw[hn,KC]at h;cases h)];exact bY hQ))
def PL(K:aE)(a:Addr):It:=
 ⟨λ i H=>∃xs x,aP K H a xs/\xs[i]?=some x,λ i H x H'=>H'=H/\∀xs,aP K H a xs ->xs[i]?=some x,λ i H=>∃xs,aP K H a xs/\xs.length<=i⟩
def Vb(lo:Int)(n:Nat):It:=⟨λ i _=>i<n,λ i H x H'=>H'=H/\x=.int (lo+i),λ i _=>n<=i⟩
theorem Il{P:dz}{w:c9}{K:aE}{tg:Expr}(a it:Addr):Br P w K tg (PL K a) [it] it (λ i h=>h.IsListIter it a i)where
 mem:=by simp
 obj:=λ i h st b hb=>by
  have e:b=it:=by simpa using hb
  subst e;obtain⟨o,e,c,d⟩:=st;exact⟨o,e,λ v z=>by rw[d]at z;cases z⟩
 keep:=λ i h h' st k=>st.at λ o e=>k it aL o e
 item:=by
  intro X hP hw hK hc i pins s σ H E I hf st hg;subst hP hw hK;obtain⟨xs,x,hq,hx⟩:=hg;obtain⟨bb,rv,p,hz⟩:=I.list hq;obtain⟨u,hu,ru⟩:=rv.get hx;obtain⟨f0,f1,f2,f3,f4,f5⟩:=hf it aL;refine wpAny_pyNext_list_item st p.isList (x:=u) (by simpa using hu) λ h' Ea sb=>?_
  have I1:aZ X pins σ H {s with heap:=h'}:=I.lG (t':=s.toks) (λ b o hb e=>(sb.2 b hb).trans e) f0 f1 f3 f4 f5;obtain⟨o,e,c,d⟩:=id Ea;exact⟨u,rfl,KA (s:={s with heap:=h'}) e c d zq_dc ⟨x,H,I1,ru,⟨rfl,λ ys hy=>by rw[I.nc hy hq];exact hx⟩,Ea,λ b hb=>(hf b hb).1⟩⟩
 done:=by
  intro X hP hw hK hc i pins s σ H E I hf st hg;subst hP hw hK;obtain⟨xs,hq,hx⟩:=hg;obtain⟨bb,rv,p,hz⟩:=I.list hq;obtain⟨f0,f1,f2,f3,f4,f5⟩:=hf it aL;have hl:=rv.length;exact wpAny_pyNext_list_end (I.ok.hd hc) st p.isList i6 λ h' eb=>⟨rfl,I.lG (t':=s.toks) (λ b o hb e=>eb b o hb e) f0 f1 f3 f4 f5⟩
 self:=λ _ _ _ _ _ st h=>wpAny_pyIter_listiter st h
theorem Eb{P:dz}{w:c9}{K:aE}{tg:Expr}(it:Addr)(lo:Int)(n:Nat):Br P w K tg (Vb lo n) [it] it (λ i h=>Vc h it (lo+(i:Nat)*1) ((n:Int) -(i:Nat)) 1)where
 mem:=by simp
 obj:=λ i h st b hb=>by
  have e:b=it:=by simpa using hb
  subst e;exact⟨_,st,λ v z=>by
   have z':Data.fields _=Data.cell v:=z;cases z'⟩
 keep:=λ i h h' st k=>k it aL _ st
 item:=by
  intro X hP hw hK hc i pins s σ H E I hf st hg;subst hP hw hK;obtain⟨f0,f1,f2,f3,f4,f5⟩:=hf it aL;have W:=ach (prog:=X.prog) (w:=X.w) (I.ok.hd hc) it lo 1 n;refine W.item i s _ _ hg st λ v h' tk hv Ea kk=>?_
  obtain⟨t,rfl⟩:=hv;have I1:aZ X pins σ H {s with heap:=h',toks:=tk}:=I.lG (λ b o hb e=>kk b o (by simpa using hb) e) f0 f1 f3 f4 f5;refine⟨_,rfl,KA (s:={s with heap:=h',toks:=tk}) (n:="range_iterator") Ea rfl rfl zq_dc ⟨.int (lo+i),H,I1,⟨t,?_⟩,⟨rfl,rfl⟩,Ea,λ b hb=>(hf b hb).1⟩⟩;rw[Int.mul_one]
 done:=by
  intro X hP hw hK hc i pins s σ H E I hf st hg;subst hP hw hK;obtain⟨f0,f1,f2,f3,f4,f5⟩:=hf it aL;exact aci (I.ok.hd hc) st (by have:n<=i:=hg;omega) λ h' eb=>⟨rfl,I.lG (t':=s.toks) (λ b o hb e=>eb b o hb e) f0 f1 f3 f4 f5⟩
 self:=λ _ _ _ _ _ st h=>acj st h
end L2
namespace L2
open PySem PySem.Spec PyProof.Rows
section
variable{X:Cx}{tg:Expr}
def X7(K:aE)(tl:TE):TI:=λ σ H R=>tl σ H λ x H1=>∃a,x=.ref a/\(∃xs,aP K H1 a xs)/\R (PL K a) H1
theorem bF{l:Expr}{tl:TE}(hl:PE X l tl):PI X tg l (X7 X.K tl):=by
 intro pins s σ H R I h;refine dQ (hl pins s σ H _ I h) λ v s1 ⟨x,H1,I1,r1,q1⟩=>?_
 obtain⟨a,e,⟨xs,hq⟩,q⟩:=q1;subst e;cases r1;obtain⟨bb,rv,p,hz⟩:=I1.list hq;refine Im p.isList ?_;refine⟨s1.heap.objs.size,[s1.heap.objs.size],_,_,H1,rfl,I1.fw (t':=s1.toks) λ b o e=>cf _ e,Il a _,⟨_,fN _ rfl,rfl,rfl⟩,λ b hb=>?_,q⟩;have e:b=s1.heap.objs.size:=by simpa using hb
 subst e;exact I1.qe (ci _) (I1.db.fresh (ci _))
theorem Bs{pins:List (Addr×Obj)}{σ:St}{H:Hp}{s:ap}{R:It ->Hp ->Prop}{E:aq ->ap ->Prop}{lo hi:Int}{t u v:Tok}{tk:Nat}(I:aZ X pins σ H s)(h1:-(2^62)<=lo)(h2:lo<2^62)(h3:-(2^62)<=hi)(h4:hi<2^62)
  (q:R (Vb lo (hi -lo).toNat) H):wpAny (model X.prog X.w) X.A (pyIter (.ref s.heap.objs.size)) (PIE X pins σ tg R) E {s with heap:=s.heap.push {cls:=.type "range",data:=.fields #[.int lo t,.int hi u,.int 1 v]},toks:=tk}:=by
 refine ack (acl ..) (small_one h1 h2 h3 h4) ?_;have I1:aZ X pins σ H {s with heap:=s.heap.push {cls:=.type "range",data:=.fields #[.int lo t,.int hi u,.int 1 v]},toks:=tk}:=I.fw λ b o e=>cf _ e
 refine⟨(s.heap.push {cls:=.type "range",data:=.fields #[.int lo t,.int hi u,.int 1 v]}).objs.size,[(s.heap.push {cls:=.type "range",data:=.fields #[.int lo t,.int hi u,.int 1 v]}).objs.size],_,_,H,rfl,
  I1.fw (t':=tk) λ b o e=>cf _ e,Eb _ lo (hi -lo).toNat,?_,λ b hb=>?_,q⟩
 .have e1:lo+((0:Nat):Int)*1=lo:=by simp
  have e2:(((hi -lo).toNat:Nat):Int) -((0:Nat):Int)=PP lo hi 1:=by rw[rangeSize_one];split<;>omega
  show Vc _ _ (lo+((0:Nat):Int)*1) ((((hi -lo).toNat:Nat):Int) -((0:Nat):Int)) 1;rw[e1,e2];exact fN _ rfl
 .have e:b=(s.heap.push {cls:=.type "range",data:=.fields #[.int lo t,.int hi u,.int 1 v]}).objs.size:=by simpa using hb
  subst e;exact I1.qe (ci _) (I1.db.fresh (ci _))
def X8(ta:TA):TI:=λ σ H R=>ta σ H λ vs H1=>∃j:Int,vs=[.int j]/\-(2^62)<=j/\j<2^62/\R (Vb 0 j.toNat) H1
def X9(ta:TA):TI:=λ σ H R=>ta σ H λ vs H1=>∃i j:Int,vs=[.int i,.int j]/\(-(2^62)<=i/\i<2^62/\-(2^62)<=j/\j<2^62)/\R (Vb i (j -i).toNat) H1
theorem oT{a:Expr}{ta:TA}{p pos:Pos}(hg:Gl X "range")(hm:X.mg "range"=none)(ha:PA X [a] ta)(hs:starEach [a] X.aC=[(false,eval a X.aC)]:=by rfl):PI X tg (.Call (.Name "range" p) [a] [] pos) (X8 ta):=by
 intro pins s σ H R I h;refine Call_ (jC I hg hm X_ (PQ (dQ (ha pos pins s σ H _ I h) λ us s1 ⟨vs,H1,I1,r1,q1⟩=>?_) hs rfl));obtain⟨j,e,q1,q2,q⟩:=q1;subst e;cases r1 with
 |cons r rr=>
  cases rr;obtain⟨t,rfl⟩:=r;exact call_range_1 (Bs I1 ah ah q1 q2 (by simpa using q))
theorem Io{a b:Expr}{ta:TA}{p pos:Pos}(hg:Gl X "range")(hm:X.mg "range"=none)(ha:PA X [a,b] ta)(hs:starEach [a,b] X.aC=[(false,eval a X.aC),(false,eval b X.aC)]:=by rfl)(Ip:starEach [b] X.aC=[(false,eval b X.aC)]:=by rfl):
  PI X tg (.Call (.Name "range" p) [a,b] [] pos) (X9 ta):=by
 intro pins s σ H R I h;refine Call_ (jC I hg hm X_ (PQ (dQ (ha pos pins s σ H _ I h) λ us s1 ⟨vs,H1,I1,r1,q1⟩=>?_) (by rw[hs,Ip]) (by rw[Ip];rfl)));obtain⟨i,j,e,⟨q1,q2,q3,q4⟩,q⟩:=q1;subst e;cases r1 with
 |cons r rr=>
  cases rr with
  |cons r' rr=>
   cases rr;obtain⟨t,rfl⟩:=r;obtain⟨t',rfl⟩:=r';exact call_range_2 (Bs I1 q1 q2 q3 q4 q)
def acm(wi:TI)(g:TG)(tb:TS):TS:=λ D σ H=>wi σ H λ J H1=>∃W:Nat ->Nat ->St ->Hp ->Prop,(∃m,W 0 m σ H1)/\∀i m σ H,W i m σ H ->
 (J.stop i H/\D.nx σ H)\/(J.go i H/\∃N:St ->Hp ->Prop,(∀σ' H',N σ' H' ->∃m',m'<m/\W (i+1) m' σ' H')/\∀x H',J.zJ i H x H' ->g x σ H' λ σ2 H2=>tb {D with nx:=N,ct:=N,bk:=D.nx} σ2 H2)
def vO(fp:List Addr)(h:Heap):List (Addr×Obj):=fp.filterMap λ b=>(h.get? b).map λ o=>(b,o)
theorem qf{fp:List Addr}{h:Heap}{b:Addr}{o:Obj}(hb:b∈fp)(e:h.get? b=some o):(b,o)∈vO fp h:=acn.mpr ⟨b,hb,by rw[e];rfl⟩
theorem Iq{fp:List Addr}{h:Heap}{p:Addr×Obj}(hp:p∈vO fp h):p.1∈fp/\h.get? p.1=some p.2:=by
 obtain⟨b,hb,e⟩:=acn.mp hp;cases q:h.get? b with
 |none=>rw[q]at e;cases e
 |some o=>
  rw[q]at e;have e':(b,o)=p:=cT e;subst e';exact⟨hb,q⟩
theorem aZ.KD{pins:List (Addr×Obj)}{σ:St}{H:Hp}{s:ap}{fp:List Addr}(I:aZ X pins σ H s)(hf:∀b∈fp,fA X pins H b)(ho:∀b∈fp,∃o,s.heap.get? b=some o/\∀v,o.data≠.cell v):aZ X (pins++vO fp s.heap) σ H s:=
 I.lH λ p hp=>(kX.mp hp).elim (λ z=>I.tR p (ij _ z)) λ z=>by
  obtain⟨hb,e⟩:=Iq z;obtain⟨f0,f1,f2,_⟩:=hf p.1 hb;obtain⟨o,e',d⟩:=ho p.1 hb;rw[e]at e';cases e';exact⟨e,f0,f1,f2,d⟩
theorem aZ.gT{pins pl:List (Addr×Obj)}{σ:St}{H:Hp}{s:ap}(I:aZ X (pins++pl) σ H s):aZ X pins σ H s:=I.lH λ p hp=>I.tR p (ij _ (Py _ hp))
theorem ee{iter:Expr}{body:List Stmt}{wi:TI}{g:TG}{tb:TS}{pos:Pos}(hp:PassesOwn (model X.prog X.w) X.A X.aC X.xe)(hc:X.mS=true)(hi:PI X tg iter wi)(hg:PG X tg g)(hb:F5 X body tb)
  (hs:∀x,foldedSetIterable iter X.aC x=pure x:=by intro _;rfl):PS X (.For tg iter body [] pos) (acm wi g tb):=by
 intro pins s σ H D I h;refine wpAny_For (dQ (hi pins s σ H _ I h) λ v s1 h1=>dQ h1 λ itv s2 h2=>?_) hs;obtain⟨it,fp,tn,J,H2,e,I2,T,st2,f2,W,⟨m0,w0⟩,turn⟩:=h2;subst e;have Ec:∀{H':Hp},(∀b∈fp,H' b=none) ->∀b∈fp,fA X pins H' b:=λ hn b hb=>⟨hn b hb,(f2 b hb).2⟩
 refine codeAny_forLoop_any (λ n s'=>∃i σ' H',aZ X pins σ' H' s'/\tn i s'.heap/\(∀b∈fp,H' b=none)/\W i n σ' H') ?_ m0 ⟨0,σ,H2,I2,st2,λ b hb=>(f2 b hb).1,w0⟩
 rintro n s3 ⟨i,σ3,H3,I3,st3,fr3,w3⟩
 rcases turn i n σ3 H3 w3 with⟨stop,qn⟩|⟨go,N,hN,step⟩
 .refine Ik hp (dQ (T.done X rfl rfl rfl hc i pins s3 σ3 H3 X.xe I3 (Ec fr3) st3 stop) λ r s4 ⟨hr,I4⟩=>?_);subst hr;exact U4 ⟨σ3,H3,I4,qn⟩
 .refine Ik hp (dQ (T.item X rfl rfl rfl hc i pins s3 σ3 H3 X.xe I3 (Ec fr3) st3 go) λ r s4 ⟨u,hr,h4⟩=>?_);subst hr;refine Ik hp (dQ h4 λ _ s5 ⟨x,H5,I5,r5,y5,Xf,fr5⟩=>?_);have I5':=I5.KD (Ec fr5) (T.obj _ _ Xf);refine Ik hp (dQ (hg _ s5 σ3 H5 x u _ I5' r5 (step x H5 y5)) λ _ s6 ⟨σ6,H6,I6,q6⟩=>?_);refine Ik hp (dQ (hb _ s6 σ6 H6 _ I6 q6) λ f s7 q7=>?_);have again:∀{σ7:St}{H7:Hp},aZ X (pins++vO fp s5.heap) σ7 H7 s7 ->N σ7 H7 ->∃m,m<n/\∃i σ' H',aZ X pins σ' H' s7/\tn i s7.heap/\(∀b∈fp,H' b=none)/\W i m σ' H':=λ{σ7 H7} I7 n7=>by
   obtain⟨m',hm,w7⟩:=hN σ7 H7 n7;refine⟨m',hm,i+1,σ7,H7,I7.gT,T.keep _ _ _ Xf λ b hb o e=>(I7.tR (b,o) (ij _ (ij _ (qf hb e)))).1,λ b hb=>?_,w7⟩;obtain⟨o,e,d⟩:=T.obj _ _ Xf b hb;exact(I7.tR (b,o) (ij _ (ij _ (qf hb e)))).2.1
  cases f with
  |next=>obtain⟨σ7,H7,I7,n7⟩:=q7;exact again I7 n7
  |cont=>obtain⟨σ7,H7,I7,n7⟩:=q7;exact again I7 n7
  |brk=>obtain⟨σ7,H7,I7,q7⟩:=q7;exact⟨σ7,H7,I7.gT,q7⟩
  |ret v=>obtain⟨x7,σ7,H7,I7,r7,q7⟩:=q7;exact⟨x7,σ7,H7,I7.gT,r7,q7⟩
end
theorem eV{K:aE}{a:Addr}{xs:List V}{g:TG}{tb:TS}{D:vL}{σ:St}{H:Hp}(Pv:Nat ->St ->Hp ->Prop)(h0:Pv 0 σ H)(hl:∀i σ H,i<=xs.length ->Pv i σ H ->aP K H a xs)
  (hs:∀i x σ H,xs[i]?=some x ->Pv i σ H ->g x σ H λ σ2 H2=>tb {D with nx:=Pv (i+1),ct:=Pv (i+1),bk:=D.nx} σ2 H2) (hd:∀σ H,Pv xs.length σ H ->D.nx σ H):
  ∃W:Nat ->Nat ->St ->Hp ->Prop,(∃m,W 0 m σ H)/\∀i m σ H,W i m σ H ->
   ((PL K a).stop i H/\D.nx σ H)\/((PL K a).go i H/\∃N:St ->Hp ->Prop,(∀σ' H',N σ' H' ->∃m',m'<m/\W (i+1) m' σ' H')/\∀x H',(PL K a).zJ i H x H' ->g x σ H' λ σ2 H2=>tb {D with nx:=N,ct:=N,bk:=D.nx} σ2 H2):=by
 refine⟨λ i m σ H=>m=xs.length -i/\i<=xs.length/\Pv i σ H,⟨xs.length,by simp,ia _,h0⟩,?_⟩
 rintro i m σ H ⟨rfl,hi,p⟩
 have q:=hl i σ H hi p;by_cases dC:i<xs.length
 .refine .inr ⟨⟨xs,xs[i],q,by simp[dC]⟩,Pv (i+1),λ σ' H' p'=>⟨xs.length -(i+1),ah,rfl,dC,p'⟩,λ x H' y=>?_⟩;obtain⟨e,y⟩:=y;subst e;exact hs i x σ _ (y xs q) p
 .have e:i=xs.length:=by omega
  subst e;exact .inl ⟨⟨xs,q,ci _⟩,hd σ H p⟩
theorem kY{lo:Int}{n:Nat}{g:TG}{tb:TS}{D:vL}{σ:St}{H:Hp}(Pv:Nat ->St ->Hp ->Prop)(h0:Pv 0 σ H)
  (hs:∀i σ H,i<n ->Pv i σ H ->g (.int (lo+i)) σ H λ σ2 H2=>tb {D with nx:=Pv (i+1),ct:=Pv (i+1),bk:=D.nx} σ2 H2) (hd:∀σ H,Pv n σ H ->D.nx σ H):
  ∃W:Nat ->Nat ->St ->Hp ->Prop,(∃m,W 0 m σ H)/\∀i m σ H,W i m σ H ->
   ((Vb lo n).stop i H/\D.nx σ H)\/((Vb lo n).go i H/\∃N:St ->Hp ->Prop,(∀σ' H',N σ' H' ->∃m',m'<m/\W (i+1) m' σ' H')/\∀x H',(Vb lo n).zJ i H x H' ->g x σ H' λ σ2 H2=>tb {D with nx:=N,ct:=N,bk:=D.nx} σ2 H2):=by
 refine⟨λ i m σ H=>m=n -i/\i<=n/\Pv i σ H,⟨n,by simp,ia _,h0⟩,?_⟩
 rintro i m σ H ⟨rfl,hi,p⟩
 by_cases dC:i<n
 .refine .inr ⟨dC,Pv (i+1),λ σ' H' p'=>⟨n -(i+1),ah,rfl,dC,p'⟩,λ x H' y=>?_⟩;obtain⟨e,y⟩:=y;subst e y;exact hs i σ _ dC p
 .have e:i=n:=by omega
  subst e;exact .inl ⟨ci _,hd σ H p⟩
theorem Bt{c:TT}{tb:TS}{D:vL}{σ:St}{H:Hp}(Pv:St ->Hp ->Prop)(μ:St ->Hp ->Nat)(h0:Pv σ H)
  (hs:∀σ H,Pv σ H ->c σ H λ b H1=>if b=true then tb {D with nx:=λ σ' H'=>Pv σ' H'/\μ σ' H'<μ σ H,ct:=λ σ' H'=>Pv σ' H'/\μ σ' H'<μ σ H,bk:=D.nx} σ H1 else D.nx σ H1)
  (bI:∀σ H Q Q',(∀b H1,Q b H1 ->Q' b H1) ->c σ H Q ->c σ H Q'):Kz c tb D σ H:=by
 refine⟨λ m σ H=>m=μ σ H/\Pv σ H,⟨_,rfl,h0⟩,?_⟩
 rintro m σ H ⟨rfl,p⟩
 refine bI σ H _ _ (λ b H1 q=>?_) (hs σ H p);cases b with
 |true=>exact⟨_,λ σ' H' ⟨p',l⟩=>⟨_,l,rfl,p'⟩,q⟩
 |false=>exact q
end L2
namespace L2
open PySem PySem.Spec PyProof.Rows
abbrev R2:=V ->V ->Hp ->VK ->Prop
def uT(X:Cx)(f:aq ->aq ->Sem aq)(r:R2):Prop:=
 ∀(pins:List (Addr×Obj))(s:ap)(σ:St)(H:Hp)(x y:V)(v u:aq)(Q:VK),aZ X pins σ H s ->bT x v ->bT y u ->r x y H Q ->
  wpAny (model X.prog X.w) X.A (f v u) (EP X pins σ Q) X.xe s
def UnR(X:Cx)(f:aq ->Sem aq)(r:V ->Hp ->VK ->Prop):Prop:=
 ∀(pins:List (Addr×Obj))(s:ap)(σ:St)(H:Hp)(x:V)(v:aq)(Q:VK),aZ X pins σ H s ->bT x v ->r x H Q ->
  wpAny (model X.prog X.w) X.A (f v) (EP X pins σ Q) X.xe s
def nv(X:Cx)(f:aq)(r:List V ->Hp ->VK ->Prop):Prop:=
 ∀(pins:List (Addr×Obj))(s:ap)(σ:St)(H:Hp)(xs:List V)(us:List aq)(Q:VK),aZ X pins σ H s ->bv xs us ->r xs H Q ->
  wpAny (model X.prog X.w) X.A (call f us) (EP X pins σ Q) X.xe s
def tU(r:R2)(ta tb:TE):TE:=λ σ H Q=>ta σ H λ x H1=>tb σ H1 λ y H2=>r x y H2 Q
def tUn(r:V ->Hp ->VK ->Prop)(ta:TE):TE:=λ σ H Q=>ta σ H λ x H1=>r x H1 Q
def rI(C:Int ->Int ->Prop)(g:Int ->Int ->V):R2:=λ x y H Q=>∃i j,x=.int i/\y=.int j/\C i j/\Q (g i j) H
def zL(g:Int ->Int ->V):R2:=λ x y H Q=>∃i j,x=.int i/\y=.int j/\Q (g i j) H
def rU(g:Int ->V):V ->Hp ->VK ->Prop:=λ x H Q=>∃i,x=.int i/\Q (g i) H
section
variable{X:Cx}{a b c:Expr}{ta tb tc:TE}{pos:Pos}
theorem Vd(ha:PE X a ta)(hb:PE X b tb){pins:List (Addr×Obj)}{s:ap}{σ:St}{H:Hp}{R:V ->V ->Hp ->Prop}(I:aZ X pins σ H s)
  (h:ta σ H λ x H1=>tb σ H1 λ y H2=>R x y H2) {Q:aq ->ap ->Prop} {f:aq ->aq ->Sem aq}
  (hf:∀v u s2 x y H2,aZ X pins σ H2 s2 ->bT x v ->bT y u ->R x y H2 ->wpAny (model X.prog X.w) X.A (f v u) Q X.xe s2):
  wpAny (model X.prog X.w) X.A (eval a X.aC) (λ v s₁=>wpAny (model X.prog X.w) X.A (eval b X.aC) (λ u s₂=>wpAny (model X.prog X.w) X.A (f v u) Q X.xe s₂) X.xe s₁) X.xe s:=by
 refine dQ (ha pins s σ H _ I h) λ v s1 ⟨x,H1,I1,r1,q1⟩=>?_
 refine dQ (hb pins s1 σ H1 _ I1 q1) λ u s2 ⟨y,H2,I2,r2,q2⟩=>?_
 exact hf v u s2 x y H2 I2 r1 r2 q2
theorem bG{op:Ky}{r:R2}(ho:uT X (binaryOp op) r)(ha:PE X a ta)(hb:PE X b tb):PE X (.BinOp a op b pos) (tU r ta tb):=by
 intro pins s σ H Q I h;exact wpAny_BinOp (Vd ha hb I h λ v u s2 x y H2 I2 rx ry q=>ho pins s2 σ H2 x y v u Q I2 rx ry q)
theorem F6{op:UnaryOp}{r:V ->Hp ->VK ->Prop}(ho:UnR X (unaryOp op) r)(ha:PE X a ta):PE X (.UnaryOp op a pos) (tUn r ta):=by
 intro pins s σ H Q I h;exact UnaryOp_ (dQ (ha pins s σ H _ I h) λ v s1 ⟨x,H1,I1,r1,q1⟩=>ho pins s1 σ H1 x v Q I1 r1 q1)
theorem opI{f:aq ->aq ->Sem aq}{C:Int ->Int ->Prop}{g:Int ->Int ->Int}
  (rule:∀(i j:Int)(t u:Tok)(s:ap)(Q:aq ->ap ->Prop)(E:aq ->ap ->Prop),C i j ->Q (.int (g i j) s.toks) {s with toks:=s.toks+1} ->wpAny (model X.prog X.w) X.A (f (.int i t) (.int j u)) Q E s):
  uT X f (rI C λ i j=>.int (g i j)):=by
 intro pins s σ H x y v u Q I rx ry h;obtain⟨i,j,rfl,rfl,hc,q⟩:=h;obtain⟨t,rfl⟩:=rx;obtain⟨t',rfl⟩:=ry;exact rule i j t t' s _ _ hc ⟨.int (g i j),H,I.Ig _,⟨_,rfl⟩,q⟩
theorem Ya{f:aq ->aq ->Sem aq}{g:Int ->Int ->Int}
  (rule:∀(i j:Int)(t u:Tok)(s:ap)(Q:aq ->ap ->Prop)(E:aq ->ap ->Prop),Q (.int (g i j) s.toks) {s with toks:=s.toks+1} ->wpAny (model X.prog X.w) X.A (f (.int i t) (.int j u)) Q E s):
  uT X f (zL λ i j=>.int (g i j)):=by
 intro pins s σ H x y v u Q I rx ry h;obtain⟨i,j,rfl,rfl,q⟩:=h;obtain⟨t,rfl⟩:=rx;obtain⟨t',rfl⟩:=ry;exact rule i j t t' s _ _ ⟨.int (g i j),H,I.Ig _,⟨_,rfl⟩,q⟩
theorem PR{f:aq ->aq ->Sem aq}{g:Int ->Int ->Bool}
  (rule:∀(i j:Int)(t u:Tok)(s:ap)(Q:aq ->ap ->Prop)(E:aq ->ap ->Prop),Q (.bool (g i j)) s ->wpAny (model X.prog X.w) X.A (f (.int i t) (.int j u)) Q E s):
  uT X f (zL λ i j=>.bl (g i j)):=by
 intro pins s σ H x y v u Q I rx ry h;obtain⟨i,j,rfl,rfl,q⟩:=h;obtain⟨t,rfl⟩:=rx;obtain⟨t',rfl⟩:=ry;exact rule i j t t' s _ _ ⟨.bl (g i j),H,I,rfl,q⟩
def aco(i j:Int):Prop:=0<j/\j<1073741824
def KG(i j:Int):Prop:=(-(2^64)<i/\i<2^64)\/(-(2^64)<j/\j<2^64)
theorem KG.ok{i j:Int}(h:KG i j):IntMulOk i j:=by
 rcases h with⟨h1,h2⟩|⟨h1,h2⟩
 .exact .of_left (intBits_le_64 h1 h2)
 .exact .of_right (intBits_le_64 h1 h2)
theorem eh:uT X (binaryOp .Add) (zL λ i j=>.int (i+j)):=Ya λ _ _ _ _ _ _ _ q=>add_int q
theorem gU:uT X (binaryOp .Sub) (zL λ i j=>.int (i -j)):=Ya λ _ _ _ _ _ _ _ q=>sub_int q
theorem sD:uT X (binaryOp .Mult) (rI KG λ i j=>.int (i*j)):=opI λ _ _ _ _ _ _ _ hc q=>mul_int q hc.ok
theorem lJ:uT X (binaryOp .FloorDiv) (rI aco λ i j=>.int (i/j)):=opI λ i j _ _ _ _ _ hc q=>by
 have h1:(0:Int)<j:=hc.1;have h2:j<1073741824:=hc.2;exact floordiv_int ah (by rw[acp i ah];exact q) (.inl (acq ah))
theorem Ed:uT X (binaryOp .Mod) (rI (λ _ j=>0<j) λ i j=>.int (i % j)):=opI λ i j _ _ _ _ _ hc q=>by
 have h1:(0:Int)<j:=hc;exact mod_int' ah (by rw[Int.fmod_eq_emod_of_nonneg i ah];exact q)
theorem unI{f:aq ->Sem aq}{g:Int ->Int}
  (rule:∀(i:Int)(t:Tok)(s:ap)(Q:aq ->ap ->Prop)(E:aq ->ap ->Prop),Q (.int (g i) s.toks) {s with toks:=s.toks+1} ->wpAny (model X.prog X.w) X.A (f (.int i t)) Q E s):
  UnR X f (rU λ i=>.int (g i)):=by
 intro pins s σ H x v Q I rx h;obtain⟨i,rfl,q⟩:=h;obtain⟨t,rfl⟩:=rx;exact rule i t s _ _ ⟨.int (g i),H,I.Ig _,⟨_,rfl⟩,q⟩
theorem zM:UnR X (unaryOp .USub) (rU λ i=>.int (-i)):=unI λ _ _ _ _ _ q=>neg_int q
end
def zN:V ->V ->Bool
 |.bu,.bu=>true|.bu,.int _=>true|.int _,.bu=>true|.bu,.bl _=>true|.bl _,.bu=>true|.bu,.str _=>true|.str _,.bu=>true
 |.int _,.int _=>true|.bl _,.bl _=>true|.str _,.str _=>true|.zE _,.zE _=>true
 |.int _,.str _=>true|.str _,.int _=>true|.bl _,.str _=>true|.str _,.bl _=>true
 |_,_=>false
def rEq:R2:=λ x y H Q=>zN x y=true/\Q (.bl (decide (x=y))) H
def rNe:R2:=λ x y H Q=>zN x y=true/\Q (.bl (!decide (x=y))) H
theorem F7{i j:Int}:decide (V.int i=V.int j)=(i==j):=by
 rw[kH];simp
theorem KH{i j:Bool}:decide (V.bl i=V.bl j)=(i==j):=by
 rw[kH];simp
theorem F8{i j:Str}:decide (V.str i=V.str j)=(i==j):=by
 rw[kH];simp
theorem F9{i j:Array UInt8}:decide (V.zE i=V.zE j)=(i.toList==j.toList):=by
 rw[kH];cases i;cases j;simp
section
variable{X:Cx}{a b c:Expr}{ta tb tc:TE}{pos:Pos}
theorem cy{pins:List (Addr×Obj)}{σ:St}{H:Hp}{s:ap}{Q:VK}{k k':Bool}(I:aZ X pins σ H s)(q:Q (.bl k) H)(e:k=k'):EP X pins σ Q (.bool k') s:=by
 subst e;exact⟨.bl k,H,I,rfl,q⟩
theorem dM:uT X (compareOp .Eq) rEq:=by
 intro pins s σ H x y v u Q I rx ry h;obtain⟨hs,q⟩:=h;cases x with
 |bu=>
  cases rx;cases y with
  |bu=>cases ry;exact PySem.EqNone.eq_none_none (cy I q aL)
  |bl j=>cases ry;exact PySem.EqNone.eq_none_bool (cy I q aL)
  |int j=>obtain⟨t',rfl⟩:=ry;exact PySem.EqNone.eq_none_int (cy I q aL)
  |str j=>obtain⟨t',rfl⟩:=ry;exact PySem.EqNone.eq_none_str (cy I q aL)
  |_=>exact absurd (show false=true from hs) iH
 |bl i=>
  cases rx;cases y with
  |bu=>cases ry;exact PySem.EqNone.eq_bool_none (cy I q aL)
  |bl j=>cases ry;exact eq_bool (cy I q KH)
  |str j=>obtain⟨t',rfl⟩:=ry;exact adZ (cy I q aL)
  |_=>exact absurd (show false=true from hs) iH
 |int i=>
  obtain⟨t,rfl⟩:=rx;cases y with
  |bu=>cases ry;exact PySem.EqNone.eq_int_none (cy I q aL)
  |int j=>obtain⟨t',rfl⟩:=ry;exact eq_int (cy I q F7)
  |str j=>obtain⟨t',rfl⟩:=ry;exact adw (cy I q aL)
  |_=>exact absurd (show false=true from hs) iH
 |str i=>
  obtain⟨t,rfl⟩:=rx;cases y with
  |bu=>cases ry;exact PySem.EqNone.eq_str_none (cy I q aL)
  |bl j=>cases ry;exact adx (cy I q aL)
  |int j=>obtain⟨t',rfl⟩:=ry;exact ady (cy I q aL)
  |str j=>obtain⟨t',rfl⟩:=ry;exact eq_str (cy I q F8)
  |_=>exact absurd (show false=true from hs) iH
 |zE i=>
  obtain⟨t,rfl⟩:=rx;cases y with
  |zE j=>obtain⟨t',rfl⟩:=ry;exact PySem.W.eq_bytes (cy I q F9)
  |_=>exact absurd (show false=true from hs) iH
 |_=>cases y<;>exact absurd (show false=true from hs) iH
theorem Bu:uT X (compareOp .NotEq) rNe:=by
 intro pins s σ H x y v u Q I rx ry h;obtain⟨hs,q⟩:=h;cases x with
 |bu=>
  cases rx;cases y with
  |bu=>cases ry;exact PySem.EqNone.ne_none_none (cy I q aL)
  |bl j=>cases ry;exact PySem.EqNone.ne_none_bool (cy I q aL)
  |int j=>obtain⟨t',rfl⟩:=ry;exact PySem.EqNone.ne_none_int (cy I q aL)
  |str j=>obtain⟨t',rfl⟩:=ry;exact PySem.EqNone.ne_none_str (cy I q aL)
  |_=>exact absurd (show false=true from hs) iH
 |bl i=>
  cases rx;cases y with
  |bu=>cases ry;exact PySem.EqNone.ne_bool_none (cy I q aL)
  |bl j=>cases ry;exact ne_bool (cy I q (congrArg not KH))
  |str j=>obtain⟨t',rfl⟩:=ry;exact adz (cy I q aL)
  |_=>exact absurd (show false=true from hs) iH
 |int i=>
  obtain⟨t,rfl⟩:=rx;cases y with
  |bu=>cases ry;exact PySem.EqNone.ne_int_none (cy I q aL)
  |int j=>obtain⟨t',rfl⟩:=ry;exact ne_int (cy I q (congrArg not F7))
  |str j=>obtain⟨t',rfl⟩:=ry;exact adA (cy I q aL)
  |_=>exact absurd (show false=true from hs) iH
 |str i=>
  obtain⟨t,rfl⟩:=rx;cases y with
  |bu=>cases ry;exact PySem.EqNone.ne_str_none (cy I q aL)
  |bl j=>cases ry;exact adB (cy I q aL)
  |int j=>obtain⟨t',rfl⟩:=ry;exact adC (cy I q aL)
  |str j=>obtain⟨t',rfl⟩:=ry;exact ne_str (cy I q (congrArg not F8))
  |_=>exact absurd (show false=true from hs) iH
 |zE i=>
  obtain⟨t,rfl⟩:=rx;cases y with
  |zE j=>obtain⟨t',rfl⟩:=ry;exact PySem.W.ne_bytes (cy I q (congrArg not F9))
  |_=>exact absurd (show false=true from hs) iH
 |_=>cases y<;>exact absurd (show false=true from hs) iH
theorem tV:uT X (compareOp .Lt) (zL λ i j=>.bl (decide (i<j))):=PR λ _ _ _ _ _ _ _ q=>Yb q
theorem qH:uT X (compareOp .LtE) (zL λ i j=>.bl (decide (i<=j))):=PR λ _ _ _ _ _ _ _ q=>le_int q
theorem kZ:uT X (compareOp .Gt) (zL λ i j=>.bl (decide (j<i))):=PR λ _ _ _ _ _ _ _ q=>gt_int q
theorem Bv:uT X (compareOp .GtE) (zL λ i j=>.bl (decide (j<=i))):=PR λ _ _ _ _ _ _ _ q=>ge_int q
theorem vP:uT X (compareOp .Is) (λ x y H Q=>y=.bu/\Q (.bl (decide (x=.bu))) H):=by
 intro pins s σ H x y v u Q I rx ry h;obtain⟨rfl,q⟩:=h;cases ry;refine is_none_gen (cy I q ?_);cases x<;>first
  |(cases rx;rfl)
  |(obtain ⟨t,rfl⟩:=rx;rfl)
theorem PU:uT X (compareOp .IsNot) (λ x y H Q=>y=.bu/\Q (.bl (!decide (x=.bu))) H):=by
 intro pins s σ H x y v u Q I rx ry h;obtain⟨rfl,q⟩:=h;cases ry;refine isnot_none_gen (cy I q ?_);cases x<;>first
  |(cases rx;rfl)
  |(obtain ⟨t,rfl⟩:=rx;rfl)
theorem aR(b:Expr){op:D9}(h:op≠.In:=by decide)(h2:op≠.NotIn:=by decide):behindInMarks op b=false:=by
 have e1:(op==CmpOp.In)=false:=by cases op<;>first|rfl|exact absurd rfl h
 have e2:(op==ab4)=false:=by cases op<;>first|rfl|exact absurd rfl h2
 cases b<;>simp[behindInMarks,e1,e2]
theorem oU{op:D9}{r:R2}(ho:uT X (compareOp op) r)(ha:PE X a ta)(hb:PE X b tb)(hm:behindInMarks op b=false):PE X (.Compare a [op] [b] pos) (tU r ta tb):=by
 intro pins s σ H Q I h;exact wpAny_Compare1 (Vd ha hb I h λ v u s2 x y H2 I2 rx ry q=>ho pins s2 σ H2 x y v u Q I2 rx ry q) hm
def pE(t:TE):TT:=λ σ H Q=>t σ H λ x H'=>∃k,x=.bl k/\Q k H'
theorem aI{op:D9}{r:R2}(ho:uT X (compareOp op) r)(ha:PE X a ta)(hb:PE X b tb)(hm:behindInMarks op b=false):PT X (.Compare a [op] [b] pos) (pE (tU r ta tb)):=by
 intro pins s σ H Q I h;refine ab6 (dQ (ha pins s σ H _ I h) λ v s1 ⟨x,H1,I1,r1,q1⟩=>dQ (hb pins s1 σ H1 _ I1 q1) λ u s2 ⟨y,H2,I2,r2,q2⟩=>
  dQ (ho pins s2 σ H2 x y v u _ I2 r1 r2 q2) λ c s3 ⟨z,H3,I3,r3,k,e,q3⟩=>?_) hm
 subst e;cases r3;exact Bq ⟨H3,I3,q3⟩
def Ve(r r':R2)(ta tb tc:TE):TE:=λ σ H Q=>ta σ H λ x H1=>tb σ H1 λ y H2=>r x y H2 λ z H3=>∃k,z=.bl k/\
 (if k=true then tc σ H3 λ w' H4=>r' y w' H4 Q else Q (.bl false) H3)
theorem KI{op op':D9}{r r':R2}(ho:uT X (compareOp op) r)(vk:uT X (compareOp op') r')(ha:PE X a ta)(hb:PE X b tb)(hc:PE X c tc)
  (hm:lastMarks [op,op'] [b,c]=false:=by with_unfolding_all rfl):PE X (.Compare a [op,op'] [b,c] pos) (Ve r r' ta tb tc):=by
 intro pins s σ H Q I h;refine Compare_chain (dQ (ha pins s σ H _ I h) λ v s1 ⟨x,H1,I1,r1,q1⟩=>chain_link (dQ (hb pins s1 σ H1 _ I1 q1) λ u s2 ⟨y,H2,I2,r2,q2⟩=>
  dQ (ho pins s2 σ H2 x y v u _ I2 r1 r2 q2) λ d s3 ⟨z,H3,I3,r3,k,e,q3⟩=>?_)) hm
 subst e;cases r3;refine Bq ?_;cases k with
 |false=>exact ite_ff ⟨.bl false,H3,I3,rfl,q3⟩
 |true=>exact ite_tt (chain_last (dQ (hc pins s3 σ H3 _ I3 q3) λ w' s4 ⟨z',H4,I4,r4,q4⟩=>vk pins s4 σ H4 y z' u w' Q I4 r2 r4 q4))
theorem sE:(sizeLine:Nat)<2^63:=by rw[F_];decide
theorem SO{x:V}{us:List aq}(r:bv [x] us):∃u,us=[u]/\bT x u:=by
 cases r with
 |cons r1 r2=>cases r2;exact⟨_,rfl,r1⟩
theorem SQ{x y:V}{us:List aq}(r:bv [x,y] us):∃u w',us=[u,w']/\bT x u/\bT y w':=by
 cases r with
 |cons r1 r2=>
  cases r2 with
  |cons r3 r4=>cases r4;exact⟨_,_,rfl,r1,r3⟩
theorem k4(hc:X.mS=true):nv X (.builtin "max") (λ xs H Q=>∃i j,xs=[.int i,.int j]/\Q (.int (if j>i then j else i)) H):=by
 intro pins s σ H xs us Q I r h;obtain⟨i,j,rfl,q⟩:=h;obtain⟨u,w',rfl,⟨t,rfl⟩,⟨t',rfl⟩⟩:=SQ r;refine max_two_ints (I.ok.hd hc) λ h' tk k=>⟨_,H,I.fw k,?_,q⟩
 by_cases hj:j>i
 .rw[au hj,au hj];exact⟨_,rfl⟩
 .rw[ao hj,ao hj];exact⟨_,rfl⟩
theorem Ir(hc:X.mS=true):nv X (.builtin "min") (λ xs H Q=>∃i j,xs=[.int i,.int j]/\Q (.int (if j<i then j else i)) H):=by
 intro pins s σ H xs us Q I r h;obtain⟨i,j,rfl,q⟩:=h;obtain⟨u,w',rfl,⟨t,rfl⟩,⟨t',rfl⟩⟩:=SQ r;refine min_two_ints (I.ok.hd hc) λ h' tk k=>⟨_,H,I.fw k,?_,q⟩
 by_cases hj:j<i
 .rw[au hj,au hj];exact⟨_,rfl⟩
 .rw[ao hj,ao hj];exact⟨_,rfl⟩
end
end L2
namespace L2
open PySem PySem.Spec PyProof.Rows
structure Ee(h:Heap)(x dx C:Addr)(mA:Str ->Option aq):Prop where
 obj:h.get? x=some (DY C dx)
 ns:h.Ns1 dx mA
 ne:dx≠x
theorem Iu{h:Heap}{dx:Addr}{mA:Str ->Option aq}(n:h.Ns1 dx mA):∃od,h.get? dx=some od/\∀name,KJ name od=some (mA name):=by
 obtain⟨o,es,ep,ho,hd,hk,_,hm⟩:=n;refine⟨o,ho,λ name=>?_⟩;have e:=hm name;unfold nsFind findBy at e;rw[<-Array.find?_toList]at e;unfold KJ;rw[hd];dsimp only;split
 .rename_i y q
  rw[q]at e;exact congrArg some e
 .rename_i q
  rw[q]at e;have a:es.toList.any (·.refKey)=false:=by
   rw[List.any_eq_false];intro y hy;obtain⟨z,t,acr⟩:=hk y (Array.mem_toList_iff.mp hy);simp[DictEntry.refKey,acr]
  have a':¬es.toList.any (·.refKey)=true:=by rw[a];exact iH
  rw[ao a'];exact congrArg some e
theorem Ee.Iv{h:Heap}{x dx C:Addr}{mA:Str ->Option aq}(I:Ee h x dx C mA):∃od,PySem.W.InstAt h x (DY C dx) C (some od)/\∀name,KJ name od=some (mA name):=
 let⟨od,ho,hl⟩:=Iu I.ns
 ⟨od,⟨I.obj,rfl,rfl,ho⟩,hl⟩
section
variable{prog:dz}{w:c9}{A:cw}{E:aq ->ap ->Prop}{s:ap}{K:aE}{x dx C f:Addr}{mA:Str ->Option aq}{name:Str}{v:aq}
theorem PV{expr:Bool}{Q:aq ->ap ->Prop}(X:K.In s.heap)(I:Ee s.heap x dx C mA)(hg:Ga K C name=true)(hh:KL K C=true)
  (ha:mf K (.ref C) name=some none) (hv:mA name=some v) (Pl:Yc v=true) (h:Q v {s with toks:=s.toks+1}):
  wpAny (model prog w) A (getAttr (.ref x) name expr) Q E s:=by
 obtain⟨od,J,hl⟩:=I.Iv;exact PySem.W.get_value X J (SR hg).1 (PySem.W.findObj_own hh ha rfl (by rw[hl,hv])) Pl h
theorem KN{pl:Sem Bool}{Q:aq×List aq ->ap ->Prop}(X:K.In s.heap)(I:Ee s.heap x dx C mA)(hg:Ga K C name=true)
  (hf:mf K (.ref C) name=some (some (.ref f))) (ht:Gb K (.ref f)=true) (hv:mA name=none) (h:Q (.ref f,[.ref x]) s):
  wpAny (model prog w) A (getMethod (.ref x) name pl) Q E s:=by
 obtain⟨od,J,hl⟩:=I.Iv;exact PySem.W.method_fn X J (SR hg).1 (SR hg).2 hf (j5.mp ht) (by show(KJ name od).map (·.isSome)=some false;rw[hl,hv];rfl) h
theorem PX{ns:List Str}{Q:Unit ->ap ->Prop}(X:K.In s.heap)(I:Ee s.heap x dx C mA)
  (hs:mf K (.ref C) "__setattr__"=some (some (.builtin "object.__setattr__"))) (hp:SS K C=true) (ht:SU K C name=some none) (hh:KL K C=true)
  (hw:XN mA ns) (hsz:ns.length<=sizeLine)
  (h:∀h',Ee h' x dx C (λ y=>if y=name then some v else mA y) ->Ii dx s.heap h' ->Q () {s with heap:=h',toks:=s.toks+2}):
  wpAny (model prog w) A (setAttr (.ref x) name v) Q E s:=by
 obtain⟨od,J,hl⟩:=I.Iv;refine PySem.W.set_plain X J hs (PySem.W.osa_open (s:={s with toks:=s.toks+1}) (r:=none) X J hp ht λ b=>?_);obtain⟨cd,hc,Kq⟩:=PySem.W.any_some hh;have hx:s.heap.get? x=some ⟨.ref C,some dx,.plain,#[]⟩:=I.obj;refine az (bY (az (az (wpAny_loadPart hx (az (adD (s:={s with toks:=s.toks+1}) (PySem.W.looks_clsIn X hc) ?_))))));rw[Kq];refine bY (a:=some dx) (az (bY (az ?_)));refine wpAny_nsSet1 (s:={s with toks:=s.toks+1}) I.ns λ h' hn2 Ip=>?_
 obtain⟨oD,esD,epD,hoD,hdD,hcD⟩:=hn2.count (PySem.Within.cons name v hw);refine az (wpAny_lookBehind hoD (by rw[hdD];exact pastItsLine_dict (fB hcD (by rw[iI];omega))) ?_);exact bY (h _ ⟨(Ip.2 _ (qb I.ne)).trans I.obj,hn2,I.ne⟩ Ip)
theorem KO{R:Bw ->ap ->Prop}{vs:List aq}{kw:List (Str×aq)}(X:K.In s.heap)(hm:KP K C=true)
  (hi:mf K (.ref C) "__init__"=some (some (.ref f))) (hf:PySem.W.typeIn K (.ref f)=some (.type "function"))
  (h:codeAny (model prog w) (A.under (.builtin "type.__call__" ⟨.ref C::vs,kw⟩)) (.call (.ref f) ⟨.ref (s.heap.objs.size+1)::vs,kw⟩) (PySem.W.InitBack (s.heap.objs.size+1) R)
   {s with heap:=(s.heap.push tW).push (DY C s.heap.objs.size)}):
  codeAny (model prog w) A (.call (.ref C) ⟨vs,kw⟩) R s:=by
 obtain⟨hh,g,d,t,os⟩:=s;exact PySem.W.make_core (PySem.W.makes_of X hm) (PySem.W.looks_findIn X hi) (λ self=>PySem.W.bind_fn X self hf) (.inl rfl) h
end
def eE(f:Str)(v:V):List (Str×V) ->List (Str×V)
 |[]=>[(f,v)]
 |(g,x)::r=>if g=f then(g,v)::r else(g,x)::eE f v r
theorem tX(f g:Str)(v:V):∀fs:List (Str×V),(eE f v fs).lookup g=if g=f then some v else fs.lookup g
 |[]=>by
  show pF g [(f,v)]=_;by_cases h:g=f
  .have hb:(g==f)=true:=j5.mpr h;simp only[pF,hb,au h]
  .have hb:(g==f)=false:=W9.mpr h;simp only[pF,hb,ao h]
 |(k,x)::r=>by
  have ih:=tX f g v r;rw[show eE f v ((k,x)::r)=(if k=f then(k,v)::r else(k,x)::eE f v r) from rfl];by_cases hk:k=f
  .rw[au hk];by_cases h:g=k
   .have hb:(g==k)=true:=j5.mpr h;simp only[pF,hb,au (h.trans hk)]
   .have hb:(g==k)=false:=W9.mpr h;simp only[pF,hb,ao (λ e:g=f=>h (e.trans hk.symm))]
  .rw[ao hk];by_cases h:g=k
   .have hb:(g==k)=true:=j5.mpr h;simp only[pF,hb,ao (λ e:g=f=>hk (h.symm.trans e))]
   .have hb:(g==k)=false:=W9.mpr h;simp only[pF,hb];exact ih
theorem sF(f:Str)(v:V):∀fs:List (Str×V),f∈(eE f v fs).map (·.1)/\∀g,g∈fs.map (·.1) ->g∈(eE f v fs).map (·.1)
 |[]=>⟨by simp[eE],λ g h=>by simp at h⟩
 |(k,x)::r=>by
  obtain⟨i1,i2⟩:=sF f v r;rw[show eE f v ((k,x)::r)=(if k=f then(k,v)::r else(k,x)::eE f v r) from rfl];by_cases hk:k=f
  .rw[au hk];subst hk;exact⟨by simp,λ g h=>by simpa using h⟩
  .rw[ao hk];refine⟨?_,λ g h=>?_⟩
   .rw[dW];exact ff _ i1
   .rw[dW]at h⊢;rcases eB.mp h with e|e
    .exact eB.mpr (.inl e)
    .exact ff _ (i2 g e)
theorem tY(f:Str)(v:V):∀fs:List (Str×V),(eE f v fs).length<=fs.length+1
 |[]=>by simp[eE]
 |(k,x)::r=>by
  have ih:=tY f v r;rw[show eE f v ((k,x)::r)=(if k=f then(k,v)::r else(k,x)::eE f v r) from rfl];by_cases hk:k=f
  .rw[au hk,iI,iI];omega
  .rw[ao hk,iI,iI];omega
theorem xW.PY{v:V}{o:Option aq}(r:xW (some v) o):∃u,o=some u/\bT v u:=by
 cases o with
 |none=>exact(show False from r).elim
 |some u=>exact⟨u,rfl,r⟩
theorem xW.PZ{o:Option aq}(r:xW none o):o=none:=by
 cases o with
 |none=>rfl
 |some u=>exact(show False from r).elim
theorem Iw{v:V}{u:aq}(r:bT v u):Yc u=true:=by
 cases v with
 |bu=>cases(show u=xV from r);rfl
 |bl b=>cases(show u=Bo b from r);rfl
 |int i=>obtain⟨t,e⟩:=(show∃t,u=uN i t from r);cases e;rfl
 |str x=>obtain⟨t,e⟩:=(show∃t,u=QZ5 x t from r);cases e;rfl
 |zE b=>obtain⟨t,e⟩:=(show∃t,u=abR b t from r);cases e;rfl
 |XJ b=>obtain⟨t,e⟩:=(show∃t,u=abS b t from r);cases e;rfl
 |ref a=>cases(show u=ji a from r);rfl
 |ty n=>cases(show u=Ia n from r);rfl
section
variable{P:dz}{w:c9}{H H':Hp}{h h':Heap}{a C dx:Addr}{fs Xa:List (Str×V)}
theorem zO(db:qa P w H h)(e:H a=some (.bD C dx fs)):∃mA,Ee h a dx C mA/\(∀f,xW (fs.lookup f) (mA f))/\XN mA (fs.map (·.1))/\fs.length<=1000/\H dx=some (.own a):=by
 obtain⟨d,z,ne,ob,mA,n,r,q⟩:=(show gm P w H h a (.bD C dx fs) from db a _ e);exact⟨mA,⟨ob,n,ne⟩,r,q,z,d⟩
end
structure sw(K:aE)(C:Addr):Prop where
 pg:Ga K C Str.empty=true
 hd:KL K C=true
 po:SS K C=true
 sa:mf K (.ref C) "__setattr__"=some (some (.builtin "object.__setattr__"))
theorem sw.get{K:aE}{C:Addr}(c:sw K C)(f:Str):Ga K C f=true:=c.pg
def dD(K:aE)(C:Addr)(f:Str):Prop:=mf K (.ref C) f=some none
theorem dD.Yd{K:aE}{C:Addr}{f:Str}(n:dD K C f):SU K C f=some none:=by
 unfold SU;rw[show mf K (.ref C) f=some none from n];rfl
structure P0(K:aE)(C:Addr)(m:Str)(f:Addr):Prop where
 at_:mf K (.ref C) m=some (some (.ref f))
 fn:Gb K (.ref f)=true
 kp:mh K (.ref f)=true
section
variable{X:Cx}{pins:List (Addr×Obj)}{σ:St}{H:Hp}{s:ap}{a C dx:Addr}{fs:List (Str×V)}{f:Str}{v:V}{A:cw}{E:aq ->ap ->Prop}
theorem vQ{b:Bool}{Q:aq ->ap ->Prop}(I:aZ X pins σ H s)(e:H a=some (.bD C dx fs))(c:sw X.K C)(n:dD X.K C f)(l:fs.lookup f=some v)
  (h:∀u s',aZ X pins σ H s' ->bT v u ->Q u s'):wpAny (model X.prog X.w) A (getAttr (.ref a) f b) Q E s:=by
 obtain⟨mA,O,r,_,_,_⟩:=zO I.db e;obtain⟨u,hu,ru⟩:=xW.PY (v:=v) (o:=mA f) (by rw[<-l];exact r f);exact PV I.Bc O (c.get f) c.hd n hu (Iw ru) (h u _ (I.Ig _) ru)
theorem vR{m:Str}{g:Addr}{pl:Sem Bool}{Q:aq×List aq ->ap ->Prop}(I:aZ X pins σ H s)(e:H a=some (.bD C dx fs))(c:sw X.K C)(k:P0 X.K C m g)(l:fs.lookup m=none)
  (h:Q (.ref g,[.ref a]) s):wpAny (model X.prog X.w) A (getMethod (.ref a) m pl) Q E s:=by
 obtain⟨mA,O,r,_,_,_⟩:=zO I.db e;have hn:mA m=none:=xW.PZ (by rw[<-l];exact r m);exact KN I.Bc O (c.get m) k.at_ k.fn hn h
theorem vS{y:V}{u:aq}{Q:Unit ->ap ->Prop}(I:aZ X pins σ H s)(e:H a=some (.bD C dx fs))(c:sw X.K C)(n:dD X.K C f)(hl:fs.length<1000)(ry:bT y u)
  (h:∀s',aZ X pins σ (aS H a (.bD C dx (eE f y fs))) s' ->Q () s'):wpAny (model X.prog X.w) A (setAttr (.ref a) f u) Q E s:=by
 obtain⟨mA,O,r,wi,_,ho⟩:=zO I.db e;have hz:(fs.map (·.1)).length<=sizeLine:=by rw[ak,F_];omega
 refine PX I.Bc O c.sa c.po n.Yd c.hd wi hz λ h' O' sb=>h _ ?_
 have hd:∃o,h'.get? dx=some o:=let⟨o,_,_,e',_⟩:=O'.ns;⟨o,e'⟩
 refine I.tQ (x:=a) (e:=dx) (by rw[e];exact True.intro) (.inr ho) (λ b q hb z=>(sb.2 b hb).trans z) hd ?_;refine⟨by rw[ag O.ne];exact ho,?_,O.ne,O'.obj,_,O'.ns,λ g=>?_,λ g hg=>?_⟩
 .have:=tY f y fs;omega
 .show xW ((eE f y fs).lookup g) (if g=f then some u else mA g);rw[tX];by_cases q:g=f
  .rw[au q,au q];exact ry
  .rw[ao q,ao q];exact r g
 .by_cases q:g=f
  .rw[q];exact(sF f y fs).1
  .refine(sF f y fs).2 g (wi g λ z=>hg ?_);show(if g=f then some u else mA g)=none;rw[ao q];exact z
theorem aZ.made(I:aZ X pins σ H s):aZ X pins σ (aS (aS H s.heap.objs.size (.own (s.heap.objs.size+1))) (s.heap.objs.size+1) (.bD C s.heap.objs.size []))
  {s with heap:=(s.heap.push tW).push (DY C s.heap.objs.size)}:=by
 have e1:(s.heap.push tW).get? s.heap.objs.size=some tW:=fN s.heap rfl;have e2:((s.heap.push tW).push (DY C s.heap.objs.size)).get? (s.heap.objs.size+1)=some (DY C s.heap.objs.size):=by
  have:=fN (s.heap.push tW) (o:=DY C s.heap.objs.size) rfl;rwa[fD]at this
 have e3:(s.heap.push tW).Ns s.heap.objs.size (λ _=>none):=⟨tW,#[],_,e1,rfl,(λ e he=>absurd he aL),λ _=>rfl⟩;have I1:=I.sB (a:=s.heap.objs.size) (o:=.own (s.heap.objs.size+1)) (h':=s.heap.push tW) (t':=s.toks) (λ b u q=>cf _ q) (ci _) ⟨_,e1⟩;refine I1.sB (a:=s.heap.objs.size+1) (o:=.bD C s.heap.objs.size []) (t':=s.toks) (λ b u q=>cf _ q) (Gc (fD _ _)) ?_;have ne:s.heap.objs.size≠s.heap.objs.size+1:=jj (KQ _);refine⟨by rw[ag ne,aa],ia _,ne,e2,λ _=>none,(Heap.Ns1.of_empty e3).at λ o q=>cf _ q,λ _=>True.intro,λ y hy=>absurd rfl hy⟩
theorem P_{prog:dz}{w:c9}{aC:Env}{e:Expr}{f:Str}{pos:Pos}{s:ap}{Q:aq ->ap ->Prop}(hb:attributeBase e f aC (eval e aC)=eval e aC)
  (h:wpAny (model prog w) A (eval e aC) (λ o s₁=>wpAny (model prog w) A (getAttr o f true) Q E s₁) E s):wpAny (model prog w) A (eval (.Attribute e f pos) aC) Q E s:=
 Attribute_any_ h (by rw[arm_eval_Attribute,hb])
end
def gN(K:aE)(ta:TE)(f:Str):TE:=λ σ H Q=>ta σ H λ x H1=>∃a C dx fs v,x=.ref a/\H1 a=some (.bD C dx fs)/\sw K C/\dD K C f/\fs.lookup f=some v/\Q v H1
def Ye(K:aE)(ta tv:TE)(f:Str):TS:=λ D σ H=>tv σ H λ y H1=>ta σ H1 λ x H2=>∃a C dx fs,x=.ref a/\H2 a=some (.bD C dx fs)/\sw K C/\dD K C f/\fs.length<1000/\
 D.nx σ (aS H2 a (.bD C dx (eE f y fs)))
def Vf(X:Cx)(op:Ky)(rd:V ->V ->Hp ->VK ->Prop):Prop:=
 ∀(pins:List (Addr×Obj))(s:ap)(σ:St)(H:Hp)(x y:V)(u v:aq)(Q:VK),aZ X pins σ H s ->bT x u ->bT y v ->rd x y H Q ->wpAny (model X.prog X.w) X.A (inplaceOp op u v) (EP X pins σ Q) X.xe s
def Gd(K:aE)(ta tv:TE)(rd:V ->V ->Hp ->VK ->Prop)(f:Str):TS:=λ D σ H=>ta σ H λ x H1=>∃a C dx fs v,x=.ref a/\H1 a=some (.bD C dx fs)/\sw K C/\dD K C f/\fs.lookup f=some v/\
 tv σ H1 λ y H2=>rd v y H2 λ z H3=>∃x_ Xa,H3 a=some (.bD C x_ Xa)/\Xa.length<1000/\D.nx σ (aS H3 a (.bD C x_ (eE f z Xa)))
section
variable{X:Cx}{o e value:Expr}{f:Str}{pos uR pb:Pos}{ta tv:TE}
theorem ai(he:PE X e ta)(hb:attributeBase e f X.aC (eval e X.aC)=eval e X.aC):PE X (.Attribute e f pos) (gN X.K ta f):=by
 intro pins s σ H Q I h;refine P_ hb (dQ (he pins s σ H _ I h) λ u s1 ⟨x,H1,I1,rx,a,C,dx,fs,v,ex,ea,c,n,l,q⟩=>?_);subst ex;obtain rfl:u=ji a:=rx;exact vQ I1 ea c n l λ u' s2 I2 ru=>⟨v,H1,I2,ru,q⟩
theorem aN(ha:PE X o ta)(hv:PE X value tv)(hs:swapsWith value (some (.Attribute o f uR)) pos.line X.aC=pure false):PS X (.Assign [.Attribute o f uR] value pos) (Ye X.K ta tv f):=by
 intro pins s σ H D I h;refine plainObj_wpAny_Assign_Attribute (dQ (hv pins s σ H _ I h) λ u s1 ⟨y,H1,I1,ry,q⟩=>dQ (ha pins s1 σ H1 _ I1 q) λ ov s2 ⟨x,H2,I2,rx,a,C,dx,fs,ex,ea,c,n,l,q2⟩=>?_) hs;subst ex;obtain rfl:ov=ji a:=rx;exact vS I2 ea c n l ry λ s3 I3=>⟨σ,_,I3,q2⟩
theorem dh{op:Ky}{rd:V ->V ->Hp ->VK ->Prop}(ha:PE X o ta)(hv:PE X value tv)(hop:Vf X op rd):PS X (.AugAssign (.Attribute o f pb) op value pos) (Gd X.K ta tv rd f):=by
 intro pins s σ H D I h;refine wpAny_AugAssign_AttributeAny (dQ (ha pins s σ H _ I h) λ ov s1 ⟨x,H1,I1,rx,a,C,dx,fs,v,ex,ea,c,n,l,q⟩=>?_);subst ex;obtain rfl:ov=ji a:=rx;refine vQ I1 ea c n l λ u s2 I2 ru=>dQ (hv pins s2 σ H1 _ I2 q) λ w3 s3 ⟨y,H2,I3,ry,q3⟩=>dQ (hop pins s3 σ H2 v y u w3 _ I3 ru ry q3) λ w4 s4 ⟨z,H3,I4,rz,x_,Xa,ea',l',q4⟩=>?_
 exact vS I4 ea' c n l' rz λ s5 I5=>⟨σ,_,I5,q4⟩
def Yf:V ->V ->Hp ->VK ->Prop:=λ x y H Q=>∃i j,x=.int i/\y=.int j/\Q (.int (i+j)) H
def acs:V ->V ->Hp ->VK ->Prop:=λ x y H Q=>∃i j,x=.int i/\y=.int j/\Q (.int (i -j)) H
theorem iZ:Vf X .Add Yf:=by
 rintro pins s σ H x y u v Q I rx ry ⟨i,j,rfl,rfl,q⟩
 obtain⟨t,rfl⟩:=(show∃t,u=uN i t from rx);obtain⟨t',rfl⟩:=(show∃t',v=uN j t' from ry);exact acf ⟨.int (i+j),H,I.Ig _,⟨_,rfl⟩,q⟩
theorem KR:Vf X .Sub acs:=by
 rintro pins s σ H x y u v Q I rx ry ⟨i,j,rfl,rfl,q⟩
 obtain⟨t,rfl⟩:=(show∃t,u=uN i t from rx);obtain⟨t',rfl⟩:=(show∃t',v=uN j t' from ry);exact acg ⟨.int (i -j),H,I.Ig _,⟨_,rfl⟩,q⟩
end
section
variable{X:Cx}{pins:List (Addr×Obj)}{σ:St}{H:Hp}{s:ap}{A:cw}{E:aq ->ap ->Prop}{Q:aq ->ap ->Prop}{c:aq}{b:Bool}
end
end L2
namespace L2
open PySem PySem.Spec PyProof.Rows
structure dR(k:Nat)(A:cw):Prop where
 hd:A.handled=none
 dp:A.depth+3*k+5<recursionLimit
 un:A.units+16*k+200<cLine
theorem dR.bI{j k:Nat}{A:cw}(r:dR k A)(h:j<=k):dR j A:=⟨r.hd,by have:=r.dp;omega,by have:=r.un;omega⟩
theorem dR.deeper{k:Nat}{A:cw}(r:dR (k+1) A)(aC:Env):dR k (A.deeper aC):=
 ⟨r.hd,by have:=r.dp;show A.depth+1+3*k+5<_;omega,by have:=r.un;show A.units+3+16*k+200<_;omega⟩
theorem dR.in1{k:Nat}{A:cw}(r:dR (k+1) A):dR k A.in1:=
 ⟨r.hd,by have:=r.dp;show A.depth+3*k+5<_;omega,by have:=r.un;show A.units+1+16*k+200<_;omega⟩
theorem Ef{A:cw}{C:Addr}{us:List aq}{kw:List (Str×aq)}:(A.under (.builtin "type.__call__" ⟨.ref C::us,kw⟩)).depth=A.depth+1:=by
 first|rfl|simp[SV,Code.weight,Code.isCreation,Code.isGuard,Code.isCaller,Yg,SW,guardIds]
theorem Eg{A:cw}{C:Addr}{us:List aq}{kw:List (Str×aq)}:(A.under (.builtin "type.__call__" ⟨.ref C::us,kw⟩)).units=A.units+1:=by
 first|rfl|simp[SV,Code.cUnits,Yg,SW]
theorem dR.Vg{k:Nat}{A:cw}(r:dR (k+1) A)(C:Addr)(us:List aq)(kw:List (Str×aq)):dR k (A.under (.builtin "type.__call__" ⟨.ref C::us,kw⟩)):=
 ⟨r.hd,by have:=r.dp;rw[Ef];omega,by have:=r.un;rw[Eg];omega⟩
theorem dR.depth{k:Nat}{A:cw}(r:dR k A):A.depth<recursionLimit:=by have:=r.dp;omega
theorem dR.units{k:Nat}{A:cw}(r:dR k A):A.units+64<cLine:=by have:=r.un;omega
def ik:TA:=λ _ H Q=>Q [] H
def cB(ta:TE)(tr:TA):TA:=λ σ H Q=>ta σ H λ x H1=>tr σ H1 λ xs H2=>Q (x::xs) H2
section
variable{X:Cx}{e:Expr}{es:List Expr}{te:TE}{t:TA}{pos:Pos}
theorem il:PA X [] ik:=λ _ _ _ _ H Q I h=>Calls.spliced_nil ⟨[],H,I,.nil,h⟩
theorem dE(ha:PE X e te)(hr:PA X es t)(hs:starEach (e::es) X.aC=(false,eval e X.aC)::starEach es X.aC:=by rfl):PA X (e::es) (cB te t):=by
 intro pos pins s σ H Q I h;rw[hs];show wpAny _ _ (spliced ((false,eval e X.aC)::backTo pos (starEach es X.aC))) _ _ s;refine Calls.spliced_cons (dQ (ha pins s σ H _ I h) λ u s1 ⟨x,H1,I1,r1,q1⟩=>?_);exact dQ (hr pos pins s1 σ H1 _ I1 q1) λ us s2 ⟨xs,H2,I2,r2,q2⟩=>⟨x::xs,H2,I2,.cons r1 r2,q2⟩
def Vh(t:TA):TE:=λ σ H Q=>t σ H λ xs H1=>xs.length<=sizeLine/\∀p,H1 p=none ->Q (.ref p) (aS H1 p (.fc xs))
def act(t:TA):TE:=λ σ H Q=>t σ H λ xs H1=>xs.length<=sizeLine/\∀p,H1 p=none ->Q (.ref p) (aS H1 p (.aD xs))
theorem fE{x1}(h:PA X es t):PE X (.Tuple es x1 pos) (Vh t):=by
 intro pins s σ H Q I hq;refine wpAny_Tuple_spliced (dQ (h pos pins s σ H _ I hq) λ us s1 ⟨xs,H1,I1,r,z,q⟩=>⟨by rw[<-r.length];exact z,?_⟩);have hf:H1 s1.heap.objs.size=none:=I1.db.fresh (ci _);refine⟨.ref s1.heap.objs.size,aS H1 s1.heap.objs.size (.fc xs),I1.sB (t':=s1.toks) (λ b u e=>cf _ e) (ci _) ?_,rfl,q _ hf⟩;exact⟨z,us,r,⟨_,fN _ rfl,rfl,_,rfl⟩⟩
theorem a_(h:PA X es t):PE X (.List es pos) (act t):=by
 intro pins s σ H Q I hq;refine wpAny_List_spliced (dQ (h pos pins s σ H _ I hq) λ us s1 ⟨xs,H1,I1,r,z,q⟩=>⟨by rw[<-r.length];exact z,?_⟩);have hf:H1 s1.heap.objs.size=none:=I1.db.fresh (ci _);refine⟨.ref s1.heap.objs.size,aS H1 s1.heap.objs.size (.aD xs),I1.sB (t':=s1.toks) (λ b u e=>cf _ e) (ci _) ?_,rfl,q _ hf⟩;exact⟨z,us,0,r,fN _ rfl⟩
end
abbrev Sp:=List V ->Hp ->VK ->XK ->Prop
abbrev Kd:=List Env ->Hp ->ap ->XK ->aq ->ap ->Prop
structure Eh(P:dz)(w:c9)(K:aE)(mg:Str ->Option aq)(base:Heap)(A:cw)(aA:List Env)(s:ap)(H:Hp):Prop where
 frames:A.frames=some aA
 mod:Mod K mg base
 bs:∀b o,base.get? b=some o ->s.heap.get? b=some o/\H b=none
 Pk:base.objs.size<=s.heap.objs.size
 uQ:s.heap.FunFrames base aA
 UT:∀b∈Kn aA,H b=none
 db:qa P w H s.heap
 jk:Ic s.gens
def CE(aA:List Env)(P:dz)(w:c9)(H:Hp)(s:ap)(Q:VK)(u:aq)(s':ap):Prop:=
 ∃v H',s'.os=s.os/\Ic s'.gens/\Un (Kn aA) [] H H' s.heap s'.heap/\qa P w H' s'.heap/\bT v u/\Q v H'
def CR(CX:Kd)(aA:List Env)(P:dz)(w:c9)(H:Hp)(s:ap)(Q:VK)(E:XK)(r:Bw)(s':ap):Prop:=
 match r with
 |.ok (.ret u)=>CE aA P w H s Q u s'
 |.ok _=>False
 |.error e=>CX aA H s E e s'
structure bj(P:dz)(w:c9)(K:aE)(mg:Str ->Option aq)(base:Heap)(CX:Kd)(k:Nat)(f:Addr)(fd:bp)(ps:List Str)(sp:Sp):Prop where
 len:∀vs H Q E,sp vs H Q E ->vs.length=ps.length
 run:∀(A:cw)(aA:List Env)(s:ap)(H:Hp)(args:Args)(us:List aq)(vs:List V)(Q:VK)(E:XK),dR k A ->Eh P w K mg base A aA s H ->Ge s fd args (ps.zip us) ->bv vs us ->sp vs H Q E ->
  codeAny (model P w) A (.call (.ref f) args) (CR CX aA P w H s Q E) s
theorem bj.bI{P:dz}{w:c9}{K:aE}{mg:Str ->Option aq}{base:Heap}{CX:Kd}{j k:Nat}{f:Addr}{fd:bp}{ps:List Str}{sp:Sp}(F:bj P w K mg base CX j f fd ps sp)(h:j<=k):
  bj P w K mg base CX k f fd ps sp:=⟨F.len,λ A aA s H args us vs Q E hr=>F.run A aA s H args us vs Q E (hr.bI h)⟩
theorem Eh.Vg{P:dz}{w:c9}{K:aE}{mg:Str ->Option aq}{base:Heap}{A:cw}{aA:List Env}{s:ap}{H:Hp}(e:Eh P w K mg base A aA s H)(C:Addr)(us:List aq)(kw:List (Str×aq)):
  Eh P w K mg base (A.under (.builtin "type.__call__" ⟨.ref C::us,kw⟩)) aA s H:=⟨by first|exact e.frames|(simpa [SV,Code.ad0,SW,pushEnvs]using e.frames),e.mod,e.bs,e.Pk,e.uQ,e.UT,e.db,e.jk⟩
section
variable{X:Cx}{pins:List (Addr×Obj)}{σ:St}{H:Hp}{s s':ap}
theorem aZ.Yh(I:aZ X pins σ H s):Eh X.prog X.w X.K X.mg X.base X.A X.stack s H:=
 ⟨I.ok.frames,I.ok.mod,I.bs,fB I.ok.Pk I.sz,I.stack,I.zG,I.db,I.jk⟩
theorem aZ.after{Q:VK}{u:aq}(I:aZ X pins σ H s)(h:CE X.stack X.prog X.w H s Q u s'):EP X pins σ Q u s':=by
 obtain⟨v,H',os,jk,un,db,r,q⟩:=h;obtain⟨hh,g,d,t,os'⟩:=s';obtain rfl:os'=s.os:=os;exact⟨v,H',I.call (h':=hh) (g':=g) (d':=d) (t':=t) (ch:=[]) un db jk (λ b z=>absurd z aL),r,q⟩
end
def tCall(sp:Sp)(vp:List V)(E:XK)(t:TA):TE:=λ σ H Q=>t σ H λ vs H1=>sp (vs++vp) H1 Q E
def Gf(C:Addr)(m:Str)(sp:Sp)(vp:List V)(E:XK)(ta:TE)(t:TA):TE:=λ σ H Q=>ta σ H λ x H1=>∃a dx fs,x=.ref a/\H1 a=some (.bD C dx fs)/\fs.lookup m=none/\
 t σ H1 λ vs H2=>sp (x::(vs++vp)) H2 Q E
def qI(C:Addr)(sp:Sp)(vp:List V)(E:XK)(t:TA):TE:=λ σ H Q=>t σ H λ vs H1=>∀x dx,H1 x=none ->H1 dx=none ->dx≠x ->
 sp (.ref x::(vs++vp)) (aS (aS H1 dx (.own x)) x (.bD C dx [])) (λ v H2=>v=.bu/\Q (.ref x) H2) E
def j6(K:aE)(fd:bp)(ps:List Str)(ds:List aq):Prop:=
 ∀(s:ap)(us:List aq),K.In s.heap ->(us++ds).length=ps.length ->Ge s fd ⟨us,[]⟩ (ps.zip (us++ds))
theorem j6.all{K:aE}{fd:bp}{ps:List Str}(h:∀us:List aq,us.length=ps.length ->bindArgs fd ⟨us,[]⟩=pure (ps.zip us)):j6 K fd ps []:=λ s us _ hl=>by
 rw[tZ]at hl⊢;exact .of_eq (h us hl)
def ny(CX:Kd)(X:Cx)(E:XK):Prop:=∀(pins:List (Addr×Obj))(σ:St)(H:Hp)(s:ap)(e:aq)(s':ap),aZ X pins σ H s ->CX X.stack H s E e s' ->X.xe e s'
section
variable{X:Cx}{CX:Kd}{k:Nat}{f C:Addr}{fd:bp}{ps:List Str}{sp:Sp}{vp:List V}{ds:List aq}{E:XK}{x m:Str}{p pos k5:Pos}{e o:Expr}{es:List Expr}{ta:TE}{t:TA}
theorem zP{pins:List (Addr×Obj)}{σ:St}{H:Hp}{s:ap}{Q:VK}{us:List aq}{vs:List V}(F:bj X.prog X.w X.K X.mg X.base CX k f fd ps sp)(hr:dR k X.A)(hb:j6 X.K fd ps ds)(hd:bv vp ds)(hx:ny CX X E)
  (I:aZ X pins σ H s) (r:bv vs us) (h:sp (vs++vp) H Q E):wpAny (model X.prog X.w) X.A (call (.ref f) us) (EP X pins σ Q) X.xe s:=by
 have r2:bv (vs++vp) (us++ds):=r.append hd;have hl:(us++ds).length=ps.length:=by rw[<-r2.length];exact F.len _ _ _ _ h
 refine KS (Bx (F.run X.A X.stack s H ⟨us,[]⟩ (us++ds) (vs++vp) Q E hr I.Yh (hb s us I.Bc hl) r2 h) λ r s' hq=>?_);cases r with
 |error e=>exact hx pins σ H s e s' I hq
 |ok fl=>
  cases fl with
  |ret u=>exact I.after hq
  |next=>exact jZ hq
  |brk=>exact jZ hq
  |cont=>exact jZ hq
theorem Qa(F:bj X.prog X.w X.K X.mg X.base CX k f fd ps sp)(hr:dR k X.A)(hg:Gl X x)(hm:X.mg x=some (.ref f))(hk:mh X.K (.ref f)=true)(hb:j6 X.K fd ps ds)(hd:bv vp ds)(hx:ny CX X E)
  (ha:PA X (e::es) t) (Ei:(x==("__debug__":Str))=false:=by decide) (he:starEach (e::es) X.aC=(false,eval e X.aC)::starEach es X.aC:=by rfl) (pc:(backTo pos (starEach es X.aC)).any (·.1)=false:=by rfl):
  PE X (.Call (.Name x p) (e::es) [] pos) (tCall sp vp E t):=by
 intro pins s σ H Q I h;refine qJ (vm I hg hm ?_ Ei);refine KU (h₀:=X.base) I.ok.mod.Xb hk (dQ (ha pos pins s σ H _ I h) λ us s1 ⟨vs,H1,I1,r,q⟩=>⟨I1.Bc,?_⟩) he pc;exact zP F hr hb hd hx I1 r q
theorem Qb{pl:Sem Bool}(he:PE X o ta)(c:sw X.K C)(hm:P0 X.K C m f)(F:bj X.prog X.w X.K X.mg X.base CX k f fd ps sp)(hr:dR k X.A)(hb:j6 X.K fd ps ds)(hd:bv vp ds)(hx:ny CX X E)(ha:PA X (e::es) t)
  (vo:starEach (e::es) X.aC=(false,eval e X.aC)::starEach es X.aC:=by rfl) (pc:(backTo pos (starEach es X.aC)).any (·.1)=false:=by rfl)
  (ht:eval (.Call (.Attribute o m k5) (e::es) [] pos) X.aC=(do
   let ov<-eval o X.aC
   standAt k5.atName
   let(f,first)<-holding [ov] (getMethod ov m pl)
   callWith pos f first (backTo pos (starEach (e::es) X.aC)) (backToKw pos (keywordEach [] X.aC))):=by rfl):
  PE X (.Call (.Attribute o m k5) (e::es) [] pos) (Gf C m sp vp E ta t):=by
 intro pins s σ H Q I h;refine Yi (pl:=pl) (dQ (he pins s σ H _ I h) λ u s1 ⟨x,H1,I1,rx,a,dx,fs,ex,ea,l,q⟩=>?_) ht;subst ex;obtain rfl:u=ji a:=rx;refine vR I1 ea c hm l ?_;refine KU (first:=[.ref a]) (h₀:=X.base) I.ok.mod.Xb hm.kp (dQ (ha pos pins s1 σ H1 _ I1 q) λ us s2 ⟨vs,H2,I2,r,q2⟩=>⟨I2.Bc,?_⟩) vo pc;exact zP (us:=.ref a::us) (vs:=.ref a::vs) F hr hb hd hx I2 (.cons rfl r) q2
theorem KW{pl:Sem Bool}(he:PE X o ta)(c:sw X.K C)(hm:P0 X.K C m f)(F:bj X.prog X.w X.K X.mg X.base CX k f fd ps sp)(hr:dR k X.A)(hb:j6 X.K fd ps ds)(hd:bv vp ds)(hx:ny CX X E)
  (ht:eval (.Call (.Attribute o m k5) [] [] pos) X.aC=(do
   let ov<-eval o X.aC
   standAt k5.atName
   let(f,first)<-holding [ov] (getMethod ov m pl)
   callWith pos f first (backTo pos (starEach [] X.aC)) (backToKw pos (keywordEach [] X.aC))):=by rfl):
  PE X (.Call (.Attribute o m k5) [] [] pos) (Gf C m sp vp E ta ik):=by
 intro pins s σ H Q I h;refine Yi (pl:=pl) (dQ (he pins s σ H _ I h) λ u s1 ⟨x,H1,I1,rx,a,dx,fs,ex,ea,l,q⟩=>?_) ht;subst ex;obtain rfl:u=ji a:=rx;refine vR I1 ea c hm l ?_;exact Yj (first:=[.ref a]) I1.Bc hm.kp (zP (us:=[.ref a]) (vs:=[.ref a]) F hr hb hd hx I1 (.cons rfl .nil) q)
structure Mk(K:aE)(C f:Addr):Prop where
 Yk:KP K C=true
 init:mf K (.ref C) "__init__"=some (some (.ref f))
 fn:Gb K (.ref f)=true
 kp:mh K (.ref C)=true
theorem By{pins:List (Addr×Obj)}{σ:St}{H:Hp}{s:ap}{Q:VK}{us:List aq}{vs:List V}(M:Mk X.K C f)(F:bj X.prog X.w X.K X.mg X.base CX k f fd ps sp)(hr:dR (k+1) X.A)(hb:j6 X.K fd ps ds)(hd:bv vp ds)
  (hx:ny CX X E) (I:aZ X pins σ H s) (r:bv vs us)
  (h:∀x dx,H x=none ->H dx=none ->dx≠x ->sp (.ref x::(vs++vp)) (aS (aS H dx (.own x)) x (.bD C dx [])) (λ v H2=>v=.bu/\Q (.ref x) H2) E):
  wpAny (model X.prog X.w) X.A (call (.ref C) us) (EP X pins σ Q) X.xe s:=by
 have hq:=h (s.heap.objs.size+1) s.heap.objs.size (I.db.fresh (t8 _)) (I.db.fresh (ci _)) (jj (KQ _));have I2:=aZ.made (C:=C) I;have r2:bv (V.ref (s.heap.objs.size+1)::(vs++vp)) (ji (s.heap.objs.size+1)::(us++ds)):=.cons rfl (r.append hd);have hl:(ji (s.heap.objs.size+1)::us++ds).length=ps.length:=by
  have e:=r2.length;rw[F.len _ _ _ _ hq]at e;exact e.symm
 refine KS (KO (f:=f) I.Bc M.Yk M.init (j5.mp M.fn) (Bx (F.run _ X.stack _ _ ⟨ji (s.heap.objs.size+1)::us,[]⟩ (ji (s.heap.objs.size+1)::(us++ds)) _ _ E (hr.Vg C us [])
  (I2.Yh.Vg C us []) (hb _ (ji (s.heap.objs.size+1)::us) I2.Bc hl) r2 hq) λ r s' DM=>?_))
 cases r with
 |error e=>exact hx pins σ _ _ e s' I2 DM
 |ok fl=>
  cases fl with
  |ret u=>
   obtain⟨v,H',I3,rv,ev,q3⟩:=I2.after DM;subst ev;exact⟨rv,⟨V.ref (s.heap.objs.size+1),H',I3,rfl,q3⟩⟩
  |next=>exact jZ DM
  |brk=>exact jZ DM
  |cont=>exact jZ DM
theorem Qc(M:Mk X.K C f)(F:bj X.prog X.w X.K X.mg X.base CX k f fd ps sp)(hr:dR (k+1) X.A)(hg:Gl X x)(hm:X.mg x=some (.ref C))(hb:j6 X.K fd ps ds)(hd:bv vp ds)(hx:ny CX X E)
  (ha:PA X (e::es) t) (Ei:(x==("__debug__":Str))=false:=by decide) (he:starEach (e::es) X.aC=(false,eval e X.aC)::starEach es X.aC:=by rfl) (pc:(backTo pos (starEach es X.aC)).any (·.1)=false:=by rfl):
  PE X (.Call (.Name x p) (e::es) [] pos) (qI C sp vp E t):=by
 intro pins s σ H Q I h;refine qJ (vm I hg hm ?_ Ei);refine KU (h₀:=X.base) I.ok.mod.Xb M.kp (dQ (ha pos pins s σ H _ I h) λ us s1 ⟨vs,H1,I1,r,q⟩=>⟨I1.Bc,?_⟩) he pc;exact By M F hr hb hd hx I1 r q
theorem KY(M:Mk X.K C f)(F:bj X.prog X.w X.K X.mg X.base CX k f fd ps sp)(hr:dR (k+1) X.A)(hg:Gl X x)(hm:X.mg x=some (.ref C))(hb:j6 X.K fd ps ds)(hd:bv vp ds)(hx:ny CX X E)
  (Ei:(x==("__debug__":Str))=false:=by decide):PE X (.Call (.Name x p) [] [] pos) (qI C sp vp E ik):=by
 intro pins s σ H Q I h;refine qJ (vm I hg hm ?_ Ei);exact Yj I.Bc M.kp (By (us:=[]) M F hr hb hd hx I .nil h)
end
section
variable{X:Cx}{CX:Kd}{k:Nat}{f C:Addr}{fd:bp}{ps ks:List Str}{sp:Sp}{E:XK}{x m:Str}{p pos k5 ad4:Pos}{e o:Expr}{es:List Expr}{Vi:List KZ}{te ta:TE}{t tk:TA}{nm:Option Str}
variable{g:List aq ->List aq ->List aq}{gV:List V ->List V ->List V}
end
structure Gg(N P:List Str)(sc:fz):Prop where
 kind:sc.kind=.function
 co:sc.isCoroutine=false
 gen:sc.isGenerator=false
 nd:N.Nodup
 pre:N.take P.length=P
 K0:∀x∈P,sc.names.lookup x=some .local\/sc.names.lookup x=some .cell
 vT:∀y∈sc.names,y.2≠.free
theorem yy{kindOf:Str ->Option gn}{x:Str}:∀{qK:List (Str×aq)}{m:Str ->Option aq},(∀v,(x,v)∉qK) ->bindL kindOf qK m x=m x
 |[],_,_=>rfl
 |(n,v)::r,m,h=>by
  unfold bindL;rw[yy λ w hw=>h w (ff _ hw)];split
  .have:x≠n:=by rintro rfl;exact h v fM
   simp[this]
  .rfl
theorem yz{kindOf:Str ->Option gn}{x:Str}:∀{qK:List (Str×aq)}{m:Str ->Option aq},(∀v,(x,v)∉qK) ->bindC kindOf qK m x=m x
 |[],_,_=>rfl
 |(n,v)::r,m,h=>by
  unfold bindC;rw[yz λ w hw=>h w (ff _ hw)];split
  .rfl
  .have:x≠n:=by rintro rfl;exact h v fM
   simp[this]
theorem yA{kindOf:Str ->Option gn}{x:Str}{v:aq}:∀{P:List Str}{vs:List aq}{i:Nat}{m:Str ->Option aq},P.Nodup ->P[i]?=some x ->vs[i]?=some v ->kindOf x=some .local->
  bindL kindOf (P.zip vs) m x=some v
 |[],_,_,_,_,h,_,_=>by simp at h
 |_::_,[],_,_,_,_,h,_=>by simp at h
 |p::P,w::vs,0,m,nd,h1,h2,hk=>by
  simp at h1 h2;subst h1;subst h2;show bindL kindOf ((p,w)::P.zip vs) m p=_;unfold bindL;rw[yy λ v hv=>(mi.mp nd).1 (K4 hv).1,au hk];simp
 |p::P,w::vs,i+1,m,nd,h1,h2,hk=>by
  show bindL kindOf ((p,w)::P.zip vs) m x=_;unfold bindL;exact yA (i:=i) (mi.mp nd).2 (by simpa using h1) (by simpa using h2) hk
theorem yB{kindOf:Str ->Option gn}{x:Str}{v:aq}:∀{P:List Str}{vs:List aq}{i:Nat}{m:Str ->Option aq},P.Nodup ->P[i]?=some x ->vs[i]?=some v ->kindOf x≠some .local->
  bindC kindOf (P.zip vs) m x=some v
 |[],_,_,_,_,h,_,_=>by simp at h
 |_::_,[],_,_,_,_,h,_=>by simp at h
 |p::P,w::vs,0,m,nd,h1,h2,hk=>by
  simp at h1 h2;subst h1;subst h2;show bindC kindOf ((p,w)::P.zip vs) m p=_;unfold bindC;rw[yz λ v hv=>(mi.mp nd).1 (K4 hv).1,ao hk];simp
 |p::P,w::vs,i+1,m,nd,h1,h2,hk=>by
  show bindC kindOf ((p,w)::P.zip vs) m x=_;unfold bindC;exact yB (i:=i) (mi.mp nd).2 (by simpa using h1) (by simpa using h2) hk
def start(N:List Str)(vs:List V):St:=vs.map some++k6 (N.length -vs.length) none
def bx(CX:Kd)(P:dz)(w:c9)(K:aE)(mg:Str ->Option aq)(base:Heap)(N:List Str)(qual:Str)(scope:fz)(f:Addr)(cd:aq)(A:cw)(aA:List Env)(s:ap)(H:Hp)(E:XK):Cx where
 prog:=P
 w:=w
 K:=K
 mg:=mg
 base:=base
 A:=A.deeper (envOfC qual scope s.heap.objs.size f cd)
 N:=N
 x8:=s
 Xc:=H
 aC:=envOfC qual scope s.heap.objs.size f cd
 aA:=aA
 stack:=envOfC qual scope s.heap.objs.size f cd::aA
 ex:=[]
 mS:=true
 fn:=λ _=>true
 pn:=[]
 xe:=λ e s'=>wpAny (model P w) (A.deeper (envOfC qual scope s.heap.objs.size f cd)) (leaving (envOfC qual scope s.heap.objs.size f cd) e) (λ _ s''=>CX aA H s E e s'') (λ e' s''=>CX aA H s E e' s'') s'
theorem Bz{sc:fz}{n:Nat}{x:Str}(h:sc.names.lookup x=some .cell):∃c,(cellsFrom n sc.names []).lookup x=some c:=by
 have q:=Yl sc.names n [] (.inl h);exact Option.isSome_iff_exists.mp q
theorem Ix{CX:Kd}{P:dz}{w:c9}{K:aE}{mg:Str ->Option aq}{base:Heap}{N ps:List Str}{qual:Str}{scope:fz}{f:Addr}{cd:aq}{A:cw}{aA:List Env}{s s1:ap}{H:Hp}{E:XK}{us:List aq}{vs:List V}
  (S:Gg N ps scope) (hd:A.handled=none) (e0:Eh P w K mg base A aA s H) (hl:vs.length=ps.length) (r:bv vs us)
  (x:InCallC s s.heap.objs.size (bindL (envOfC qual scope s.heap.objs.size f cd).kindOf (ps.zip us) λ _=>none) (cellsFrom (s.heap.objs.size+1) scope.names []) (bindC (envOfC qual scope s.heap.objs.size f cd).kindOf (ps.zip us) λ _=>none) s1):
  aZ (bx CX P w K mg base N qual scope f cd A aA s H E) [] (start N vs) H s1:=by
 have pc:ps.length<=N.length:=by have:=congrArg nA S.pre;rw[k7]at this;omega
 obtain⟨h1,tk,rfl,hk⟩:=x.done;have Qe:∀b:Addr,b∉(bx CX P w K mg base N qual scope f cd A aA s H E).ex:=λ b z=>absurd (show b∈([]:List Addr) from z) aL
 refine⟨⟨e0.mod,S.kind,rfl,rfl,ci _,λ y z c h1 h2=>?_,λ y hy=>?_,λ y c _ h=>?_,λ _=>hd,Ym e0.frames,.inr ⟨rfl,rfl⟩,λ b z=>absurd z (Qe b),e0.bs,e0.Pk,λ b _ _=>Qe b,λ b z=>absurd z (Qe b),e0.uQ,e0.UT⟩,
  rfl,e0.jk,Un.fw hk,⟨_,x.toInCall.ns,λ i y v h1 h2 h3=>?_⟩,λ y c h=>⟨_,x.cell y c h⟩,e0.db.fresh (ci _),λ y c h=>?_,λ p hp=>absurd (show p∈([]:List (Addr×Obj)) from hp) aL,e0.db.fw hk,?_⟩
 .exact name_of_addr x.apart (iJ h1) (iJ h2)
 .have hy:scope.names.lookup y=some .cell\/scope.names.lookup y=some .free:=hy;rcases hy with hy|hy
  .exact Bz hy
  .exact absurd rfl (S.vT _ (iJ hy))
 .exact Ie (x.above y c (iJ h))
 .have hi:i<vs.length:=by
   unfold start at h2;by_cases hi:i<vs.length
   .exact hi
   .rw[Gh (by simpa using hi)]at h2;rw[List.getElem?_replicate]at h2;split at h2<;>cases h2
  have ha:vs[i]?=some v:=by
   unfold start at h2;rw[Gi (by simpa using hi),aT]at h2;cases e:vs[i]?with
   |none=>rw[e]at h2;cases h2
   |some a=>rw[e]at h2;cases h2;rfl
  obtain⟨u,hu,rv⟩:=r.get ha;have hp:ps[i]?=some y:=by
   rw[<-S.pre,SX ah];exact h1
  have ndP:ps.Nodup:=by rw[<-S.pre];exact S.nd.sublist (List.take_sublist _ _)
  refine⟨u,rv,?_⟩;rcases S.K0 y (cH hp)with k|k
  .exact .inl ⟨k,yA ndP hp hu k⟩
  .obtain⟨c,e⟩:=Bz (n:=s.heap.objs.size+1) k;refine .inr ⟨.inl k,c,e,?_⟩;have q:=x.cell y c e;rw[yB ndP hp hu (by show scope.names.lookup y≠_;rw[k];decide)]at q;exact q
 .exact e0.db.fresh (Ie (x.above y c (iJ h)))
 .unfold start;show _=N.length;rw[dc,ak,List.length_replicate];omega
theorem SY{CX:Kd}{P:dz}{w:c9}{K:aE}{mg:Str ->Option aq}{base:Heap}{k:Nat}{f:Addr}{name qual:Str}{params:nB}{body:List Stmt}{scope:fz}{dV kV doc pm b_ ct oc:aq}{an od:Option Addr}
  {yC:Array (Option aq)} {N ps:List Str} {sp:Sp} (lk:K.lookup f=some ⟨oc,od,.func (pG name qual params body scope dV kV doc pm an b_ ct),yC⟩) (D8:yD K b_ qual=true) (S:Gg N ps scope)
  (len:∀vs H Q E,sp vs H Q E ->vs.length=ps.length)
  (k8:∀(A:cw)(aA:List Env)(s:ap)(H:Hp)(vs:List V)(Q:VK)(E:XK),dR k (A.deeper (envOfC qual scope s.heap.objs.size f b_)) ->sp vs H Q E ->
   ∃t,F5 (bx CX P w K mg base N qual scope f b_ A aA s H E) body t/\t {nx:=λ _ H'=>Q .bu H',rt:=Q} (start N vs) H):
  bj P w K mg base CX (k+1) f (pG name qual params body scope dV kV doc pm an b_ ct) ps sp:=by
 refine⟨len,λ A aA s H args us vs Q E hr e0 hb r Pn=>?_⟩;have hl:=len _ _ _ _ Pn;have KX:K.In s.heap:=e0.mod.Xb.keeps λ b o e=>(e0.bs b o e).1
 have lim:s.heap.NoLimit:=e0.mod.nolimit.keeps λ b o e=>(e0.bs b o e).1
 have Yn:∀y∈ps.zip us,scope.names.lookup y.1=some .local\/(scope.names.lookup y.1=some .cell/\((cellsFrom (s.heap.objs.size+1) scope.names []).lookup y.1).isSome=true):=λ⟨n,v⟩ hy=>by
  rcases S.K0 n (K4 hy).1 with q|q
  .exact .inl q
  .exact .inr ⟨q,Yl _ _ _ (.inl q)⟩
 refine codeAny_call_function hr.depth (KX _ _ lk) rfl S.co S.gen rfl (PySem.W.codeRec_of KX D8) (hb _ _ _ _ ?_);refine wpAny_newFunctionEnv_cells S.kind Yn λ aC he s1 x=>?_
 subst he;refine⟨lim.keeps x.toInCall.keep,codeAny_func ?_⟩;obtain⟨t,ht,hq⟩:=k8 A aA s H vs Q E (hr.deeper _) Pn;have I:aZ (bx CX P w K mg base N qual scope f b_ A aA s H E) [] (start N vs) H s1:=Ix S hr.hd e0 hl r x;refine o_ (ht [] s1 (start N vs) H _ I hq) (λ fl s' hs=>?_) λ e s' hs=>hs
 have fin:∀{σ':St}{H':Hp}{v:V}{u:aq},aZ (bx CX P w K mg base N qual scope f b_ A aA s H E) [] σ' H' s' ->bT v u ->Q v H' ->CE aA P w H s Q u s':=
  λ{σ' H' v u} J rv q=>⟨v,H',J.os,J.jk,J.base,J.db,rv,q⟩
 cases fl with
 |ret u=>
  obtain⟨v,σ',H',J,rv,q⟩:=hs;exact fin J rv q
 |next=>
  obtain⟨σ',H',J,q⟩:=hs;exact fin (v:=V.bu) (u:=xV) J rfl q
 |brk=>
  obtain⟨_,_,_,q⟩:=hs;exact jZ q
 |cont=>
  obtain⟨_,_,_,q⟩:=hs;exact jZ q
end L2
namespace L2
open PySem PySem.Spec PyProof.Rows
section
variable{X:Cx}{x:Str}{p pos:Pos}{e:Expr}{es:List Expr}{t:TA}{id T:String}{r:List V ->Hp ->VK ->Prop}
def tCB(r:List V ->Hp ->VK ->Prop)(t:TA):TE:=λ σ H Q=>t σ H λ vs H1=>r vs H1 Q
theorem aY(hc:nv X (.builtin id) r)(hg:Gl X x)(hm:X.mg x=none)(hv:bootBuiltins x=some (.builtin id))(ha:PA X (e::es) t)(hn:x≠"__name__":=by decide)(Ei:(x==("__debug__":Str))=false:=by decide)
  (he:starEach (e::es) X.aC=(false,eval e X.aC)::starEach es X.aC:=by rfl) (pc:(backTo pos (starEach es X.aC)).any (·.1)=false:=by rfl):PE X (.Call (.Name x p) (e::es) [] pos) (tCB r t):=by
 intro pins s σ H Q I h;refine qJ (jC I hg hm hv ?_ hn Ei);exact PyProof.Rows.callWith_builtin1 (dQ (ha pos pins s σ H _ I h) λ us s1 ⟨vs,H1,I1,r1,q1⟩=>hc pins s1 σ H1 vs us Q I1 r1 q1) he pc
theorem Iy(hc:nv X (.type T) r)(hg:Gl X x)(hm:X.mg x=none)(hv:bootBuiltins x=some (.type T))(ha:PA X (e::es) t)(hn:x≠"__name__":=by decide)(Ei:(x==("__debug__":Str))=false:=by decide)
  (he:starEach (e::es) X.aC=(false,eval e X.aC)::starEach es X.aC:=by rfl) (pc:(backTo pos (starEach es X.aC)).any (·.1)=false:=by rfl):PE X (.Call (.Name x p) (e::es) [] pos) (tCB r t):=by
 intro pins s σ H Q I h;refine qJ (jC I hg hm hv ?_ hn Ei);exact PQ (dQ (ha pos pins s σ H _ I h) λ us s1 ⟨vs,H1,I1,r1,q1⟩=>hc pins s1 σ H1 vs us Q I1 r1 q1) he pc
end
end L2
namespace HT
open PySem PyProof.Rows
def lexLt:List Int ->List Int ->Bool
 |[],[]=>false
 |[],_::_=>true
 |_::_,[]=>false
 |x::xs,y::ys=>if x=y then lexLt xs ys else decide (x<y)
theorem Ej(x y:Int)(xs ys:List Int):lexLt (x::xs) (y::ys)=if x=y then lexLt xs ys else decide (x<y):=rfl
theorem ya:lexLt [] []=false:=rfl
theorem vU(y:Int)(ys:List Int):lexLt [] (y::ys)=true:=rfl
theorem vV(x:Int)(xs:List Int):lexLt (x::xs) []=false:=rfl
theorem K6(A:cw)(s:ap)(a:Int)(t:Tok)(c:Int)(u:Tok):∃e,S0 A s (.int a t) (.int c u) e/\(e=true↔a=c):=
 ⟨(a==c),Yo a t c u,by simp⟩
theorem K7(A:cw)(s:ap)(a:Int)(t:Tok)(c:Int)(u:Tok)(prog:dz)(w:c9)(E:aq ->ap ->Prop)(Q:aq ->ap ->Prop)(h:Q (.bool (decide (a<c))) s):
  wpAny (model prog w) A (richCompare .Lt (.int a t) (.int c u)) Q E s:=
 (Yb h:wpAny (model prog w) A (compareOp .Lt (.int a t) (.int c u)) Q E s)
section
open PySem.SeqAt
open PySem.AutoSeq1 (wpAny_loadPart')
open PySem.MeetsSeq PySem.MeetsSeq2 PySem.MeetsSeq3
theorem yb(l b:Addr)(items kI:Array aq)(n n2:Nat)(dd dd2:Option Addr)(sl sl2:Array (Option aq))(ns ms:List Int)(hi:i7 items.toList ns)(hj:i7 kI.toList ms):
  BA (Builtin.«tuple.__lt__» ⟨[.ref l,.ref b],[]⟩)
   (λ _ R s=>s.heap.get? l=some {cls:=.type "tuple",dict:=dd,data:=.seq items n,slots:=sl}/\s.heap.get? b=some {cls:=.type "tuple",dict:=dd2,data:=.seq kI n2,slots:=sl2}/\
    R (.ok (.ret (.bool (lexLt ns ms)))) s):=
 .of_wp λ prog w A R s h=>by
  obtain⟨hp,g,d,tk,os⟩:=s;obtain⟨hl,hb,h⟩:=h;have f2:=AutoSeq1.sub_tuple_tuple;have z1:items.size=ns.length:=by rw[<-hi.length];simp
  have z2:kI.size=ms.length:=by rw[<-hj.length];simp
  wp_walk using wpAny_loadPart' hl,wpAny_loadPart' hb,wpAny_forIn_list _ (λ cC b s'=>b.1=none/\s'=⟨hp,g,d,tk,os⟩/\∃(vs ws:List aq)(DN Xg:List Int),cC=vs.zip ws/\
   i7 vs DN/\i7 ws Xg/\DN.length+kI.size=Xg.length+items.size/\R (.ok (.ret (.bool (lexLt DN Xg)))) ⟨hp,g,d,tk,os⟩) _
  case turn=>
   rintro ⟨y,x⟩ cC b s' ⟨j7,rfl,vs,ws,DN,Xg,hz,hvi,Vj,bH,hR⟩
   cases hvi with
   |nil=>rw[List.zip_nil_left]at hz;cases hz
   |cons a t acu=>
    cases Vj with
    |nil=>rw[List.zip_nil_right]at hz;cases hz
    |cons c u acv=>
     rw[Gj]at hz
     injection hz with hyx Yp
     injection hyx with hy hx
     subst hy hx;rw[Ej]at hR;simp only[iI]at bH;obtain⟨e,he,Yq⟩:=K6 A.in1 ⟨hp,g,d,tk,os⟩ a t c u;refine az (he prog w _ _ ?_);cases e with
     |true=>
      rw[au (Yq.mp rfl)]at hR
      wp_walk
      exact⟨rfl,rfl,_,_,_,_,Yp,acu,acv,ah,hR⟩
     |false=>
      rw[ao (λ q=>absurd (Yq.mpr q) iH)]at hR;have Vk:=K7 A.in1 ⟨hp,g,d,tk,os⟩ a t c u prog w
      wp_walk using Vk
      exact⟨_,rfl,by simpa using hR⟩
  case fin=>
   rintro ⟨b1,b2⟩ s' ⟨j7,rfl,vs,ws,DN,Xg,hz,hvi,Vj,bH,hR⟩
   simp only at j7;subst j7;have hv:lexLt DN Xg=decide (items.size<kI.size):=by
    cases hvi with
    |nil=>
     cases Vj with
     |nil=>
      simp only[S1]at bH;rw[ya];exact(gh ah).symm
     |cons c u hw=>
      simp only[S1,iI]at bH;rw[vU];exact(bO ah).symm
    |cons a t hv=>
     cases Vj with
     |nil=>
      simp only[S1,iI]at bH;rw[vV];exact(gh ah).symm
     |cons c u hw=>
      rw[Gj]at hz;cases hz
   rw[hv]at hR
   wp_walk
   exact⟨_,rfl,by simpa[adE]using hR⟩
  case h=>
   exact⟨rfl,rfl,items.toList,kI.toList,ns,ms,rfl,hi,hj,ah,h⟩
end
section
variable{prog:dz}{w:c9}{A:cw}{E:aq ->ap ->Prop}{s:ap}
theorem Ek{l b:Addr}{items kI:Array aq}{ns ms:List Int}{Q:aq ->ap ->Prop}(hl:IsTup s.heap l items)(hb:IsTup s.heap b kI)(hi:i7 items.toList ns)(hj:i7 kI.toList ms)
  (hu:A.units<cLine) (h:Q (.bool (lexLt ns ms)) s):wpAny (model prog w) A (compareOp .Lt (.ref l) (.ref b)) Q E s:=by
 obtain⟨⟨cls,dd,data,sl⟩,ho,hc,n,hd⟩:=id hl;obtain⟨⟨ad6,dd2,adF,sl2⟩,Pp,Gk,n2,hd2⟩:=id hb;simp only at hc hd Gk hd2;subst hc hd Gk hd2;exact richCompare_meets_room (op:=.Lt) ⟨_,ho,rfl⟩ ⟨_,Pp,rfl⟩ PySem.F.slot_tuple_lt PySem.F.entry_tuple_lt (PySem.F.args_tuple_lt_2 _ _) (yb l b items kI n n2 dd dd2 sl sl2 ns ms hi hj)
  ⟨ho,Pp,show Bo (lexLt ns ms)≠Value.notImplemented/\Q (.bool (lexLt ns ms)) s from⟨(λ x=>nomatch x),h⟩⟩ hu
def BB(n d:Nat):Option Int ->Nat
 |none=>d
 |some v=>if v<0 then(v+(n:Int)).toNat else min v.toNat n
theorem BC(n d:Nat):BB n d none=d:=rfl
theorem vq(n d k:Nat):BB n d (some (k:Int))=min k n:=by
 show(if(k:Int)<0 then((k:Int)+(n:Int)).toNat else min (k:Int).toNat n)=min k n;rw[ao ah,k9]
end
end HT
namespace L2
open PySem PySem.Spec PyProof.Rows
abbrev TO:=St ->Hp ->(Option Int ->Hp ->Prop) ->Prop
def PO(X:Cx)(e:Option Expr)(t:TO):Prop:=
 ∀(pins:List (Addr×Obj))(s:ap)(σ:St)(H:Hp)(Q:Option Int ->Hp ->Prop),aZ X pins σ H s ->t σ H Q ->
  wpAny (model X.prog X.w) X.A (evalPart e X.aC) (λ u s'=>∃o H',aZ X pins σ H' s'/\IsPart u o/\Q o H') X.xe s
def Qg:TO:=λ _ H Q=>Q none H
def K8(t:TE):TO:=λ σ H Q=>t σ H λ x H1=>∃i,x=.int i/\Q (some i) H1
theorem lK{ns:List Int}:∀{us:List aq},bv (ns.map V.int) us ->i7 us ns:=by
 induction ns with
 |nil=>intro us r;rw[vW]at r;cases r;exact .nil
 |cons n ns ih=>
  intro us r;rw[dW]at r;cases r with
  |cons r1 r2=>
   obtain⟨t,e⟩:=r1;subst e;exact .cons n t (ih r2)
section
variable{X:Cx}{e:Expr}{te:TE}{lo hi:Option Expr}{tl th:TO}{pos p2:Pos}
theorem Gm:PO X none Qg:=by
 intro pins s σ H Q I h;rw[evalPart_none];exact bY ⟨none,H,I,.none,h⟩
theorem j8(h:PE X e te):PO X (some e) (K8 te):=by
 intro pins s σ H Q I hw;rw[evalPart_some];refine dQ (h pins s σ H _ I hw) λ u s1 ⟨x,H1,I1,r1,q1⟩=>?_
 obtain⟨i,rfl,q⟩:=q1;obtain⟨t,rfl⟩:=r1;exact⟨some i,H1,I1,.int i t,q⟩
def SlR(X:Cx)(r:V ->Option Int ->Option Int ->Hp ->VK ->Prop):Prop:=
 ∀(pins:List (Addr×Obj))(s:ap)(σ:St)(H:Hp)(x:V)(v vl vu:aq)(lo hi:Option Int)(sl:Addr)(Q:VK),aZ X pins σ H s ->bT x v ->s.heap.IsSliceOf sl vl vu .none ->IsPart vl lo ->IsPart vu hi ->r x lo hi H Q ->
  ∃T id,typeLookup (.type T) "__getitem__"=pure (some (.builtin id))/\s.TypeIs v T/\wpAny (model X.prog X.w) X.A (getItem v (.ref sl)) (EP X pins σ Q) X.xe s
def tSl(r:V ->Option Int ->Option Int ->Hp ->VK ->Prop)(te:TE)(tl th:TO):TE:=λ σ H Q=>te σ H λ x H1=>tl σ H1 λ l H2=>th σ H2 λ u H3=>r x l u H3 Q
theorem nE{r:V ->Option Int ->Option Int ->Hp ->VK ->Prop}(hr:SlR X r)(he:PE X e te)(hl:PO X lo tl)(hu:PO X hi th):PE X (.Subscript e (.Slice lo hi none p2) pos) (tSl r te tl th):=by
 intro pins s σ H Q I h;refine Subscript_ (dQ (he pins s σ H _ I h) λ v s1 ⟨x,H1,I1,r1,q1⟩=>?_);refine wpAny_Slice (dQ (hl pins s1 σ H1 _ I1 q1) λ vl s2 ⟨l,H2,I2,pl,q2⟩=>dQ (hu pins s2 σ H2 _ I2 q2) λ vu s3 ⟨u,H3,I3,pu,q3⟩=>?_);rw[evalPart_none];refine bY ?_;have I4:aZ X pins σ H3 {s3 with heap:=s3.heap.push {cls:=.type "slice",data:=.fields #[vl,vu,.none]}}:=I3.fw (t':=s3.toks) λ b ob q=>cf _ q
 obtain⟨T,id,hT,ht,hg⟩:=hr pins {s3 with heap:=s3.heap.push {cls:=.type "slice",data:=.fields #[vl,vu,.none]}} σ H3 x v vl vu l u s3.heap.objs.size Q I4 r1 (adG ..) pl pu q3;show wpAny (model X.prog X.w) X.A (subscriptTail e (.Slice lo hi none p2) v (.ref s3.heap.objs.size)) (EP X pins σ Q) X.xe {s3 with heap:=s3.heap.push {cls:=.type "slice",data:=.fields #[vl,vu,.none]}};exact tail_any (ops:=[.ref s3.heap.objs.size,v]) ht hT hg (by with_unfolding_all rfl)
def qL(xs:List V)(lo hi:Option Int):List V:=(xs.drop (HT.BB xs.length 0 lo)).take (HT.BB xs.length xs.length hi -HT.BB xs.length 0 lo)
theorem BD(xs:List V)(lo hi:Option Int):(qL xs lo hi).length<=xs.length:=by
 unfold qL;rw[k7,mj];omega
end
end L2
namespace L2
open PySem PySem.Spec PyProof.Rows
def DO(n:Nat)(i:Int):Option Nat:=if 0<=i then(if i<n then some i.toNat else none)else if-(n:Int)<=i then some (i+n).toNat else none
def ml{α:Type}(xs:List α)(i:Int):Option α:=(DO xs.length i).bind λ j=>xs[j]?
theorem Gn{n:Nat}{i:Int}{j:Nat}(h:DO n i=some j):seqIndex? i n=some j/\j<n/\-(n:Int)<=i/\i<n:=by
 unfold DO at h;by_cases h0:0<=i
 .rw[au h0]at h;by_cases h1:i<n
  .rw[au h1]at h;have e:i.toNat=j:=cT h;exact⟨by rw[K9 h0 h1,e],ah,ah,h1⟩
  .rw[ao h1]at h;cases h
 .rw[ao h0]at h;by_cases h1:-(n:Int)<=i
  .rw[au h1]at h;have e:(i+n).toNat=j:=cT h;exact⟨by rw[seqIndex_neg ah h1,e],ah,h1,ah⟩
  .rw[ao h1]at h;cases h
theorem vt{α:Type}{xs:List α}{i:Int}{v:α}(h:ml xs i=some v):∃j,seqIndex? i xs.length=some j/\xs[j]?=some v/\j<xs.length/\-(xs.length:Int)<=i/\i<xs.length:=by
 unfold ml at h;cases e:DO xs.length i with
 |none=>rw[e]at h;cases h
 |some j=>
  rw[e]at h;obtain⟨h1,h2,h3,h4⟩:=Gn e;exact⟨j,h1,h,h2,h3,h4⟩
theorem cG{α:Type}{xs:List α}{j:Nat}{v:α}(h:xs[j]?=some v):ml xs (j:Int)=some v:=by
 have hj:j<xs.length:=(gM.mp h).1;have e:DO xs.length (j:Int)=some j:=by
  unfold DO;rw[au ah,au ah];simp
 unfold ml;rw[e];exact h
theorem K_{α:Type}(xs:List α)(v:α):ml (xs++[v]) (-1)=some v:=by
 have hl:(xs++[v]).length=xs.length+1:=by simp
 have e:DO (xs++[v]).length (-1)=some xs.length:=by
  unfold DO;rw[hl,ao zq_dc,au ah];congr 1;omega
 unfold ml;rw[e];show(xs++[v])[xs.length]?=some v;simp
def Qh(b:Expr):Prop:=∀o i,subscripted b false o i=operate [o,i] (getItem o i)
def Qi(X:Cx)(r:R2):Prop:=
 ∀(value slice:Expr)(pins:List (Addr×Obj))(s:ap)(σ:St)(H:Hp)(x y:V)(v u:aq)(Q:VK),aZ X pins σ H s ->bT x v ->bT y u ->r x y H Q ->
  subscripted slice false v u=operate [v,u] (getItem v u) ->wpAny (model X.prog X.w) X.A (subscriptTail value slice v u) (EP X pins σ Q) X.xe s
def MtR(X:Cx)(id:String)(r:V ->List V ->Hp ->VK ->Prop):Prop:=
 ∀(pins:List (Addr×Obj))(s:ap)(σ:St)(H:Hp)(x:V)(xs:List V)(v:aq)(us:List aq)(Q:VK),aZ X pins σ H s ->bT x v ->bv xs us ->r x xs H Q ->
  wpAny (model X.prog X.w) X.A (call (.builtin id) (v::us)) (EP X pins σ Q) X.xe s
section
variable{X:Cx}{a b:Expr}{ta tb:TE}{pos:Pos}
theorem Qi.or{r r':R2}(h:Qi X r)(h':Qi X r'):Qi X (λ x y H Q=>r x y H Q\/r' x y H Q):=by
 intro value slice pins s σ H x y v u Q I rx ry q hs;rcases q with q|q
 .exact h value slice pins s σ H x y v u Q I rx ry q hs
 .exact h' value slice pins s σ H x y v u Q I rx ry q hs
theorem bK{r:R2}(hr:Qi X r)(ha:PE X a ta)(hb:PE X b tb)(hs:Qh b):PE X (.Subscript a b pos) (tU r ta tb):=by
 intro pins s σ H Q I h;exact Subscript_ (Vd ha hb I h λ v u s2 x y H2 I2 rx ry q=>hr a b pins s2 σ H2 x y v u Q I2 rx ry q (hs _ _))
def zQ(K:aE):R2:=λ x y H Q=>∃p xs i v,x=.ref p/\y=.int i/\aP K H p xs/\ml xs i=some v/\Q v H
def Qj(K:aE):R2:=λ x y H Q=>∃p xs i v,x=.ref p/\y=.int i/\e9 K H p xs/\ml xs i=some v/\Q v H
def Yr:R2:=λ x y H Q=>∃z i c,x=.str z/\y=.int i/\z.length<=sizeLine/\ml z.cps.toList i=some c/\Q (.str ⟨#[c]⟩) H
theorem be:Qi X (zQ X.K):=by
 intro value slice pins s σ H x y v u Q I rx ry h hs;obtain⟨p,xs,i,z,rfl,rfl,hq,he,q⟩:=h;cases rx;obtain⟨t,rfl⟩:=ry;obtain⟨bb,r,pl,hz⟩:=I.list hq;obtain⟨j,h1,h2,h3,h4,h5⟩:=vt he;obtain⟨w,ew,Vl⟩:=r.get h2;have hl:=r.length;have hn:=sE;have fin:EP X pins σ Q w s:=⟨z,H,I,Vl,q⟩;by_cases h0:0<=i
 .have hj:i.toNat=j:=by
   rw[K9 h0 h5]at h1;exact cT h1
  exact item_listR pl.isList h0 ah (by rw[hj];simpa using ew) fin hs
 .have hj:(i+(bb.toArray.size:Int)).toNat=j:=by
   rw[seqIndex_neg ah h4]at h1;rw[cV,<-hl];exact cT h1
  exact Ys (x:=w) pl.isList.typeIs Yt.lookup
   (Yu (Q:=λ r s'=>r=w/\EP X pins σ Q r s') pl.isList ah (by rw[cV]<;>omega) ah (by rw[hj];simpa using ew) ⟨rfl,fin⟩) hs
theorem qg:Qi X (Qj X.K):=by
 intro value slice pins s σ H x y v u Q I rx ry h hs;obtain⟨p,xs,i,z,rfl,rfl,hq,he,q⟩:=h;cases rx;obtain⟨t,rfl⟩:=ry;obtain⟨bb,r,pl,hz⟩:=I.tuple hq;obtain⟨j,h1,h2,h3,h4,h5⟩:=vt he;obtain⟨w,ew,Vl⟩:=r.get h2;have hl:=r.length;have hn:=sE;have fin:EP X pins σ Q w s:=⟨z,H,I,Vl,q⟩;exact Ys (x:=w) pl.typeIs slot_tuple_getitem.lookup
  (getItem_tuple (j:=j) (Q:=λ r s'=>r=w/\EP X pins σ Q r s') pl ah ah (by rw[cV,<-hl];exact h1) (by simpa using ew) ⟨rfl,fin⟩) hs
theorem Vm:Qi X Yr:=by
 intro value slice pins s σ H x y v u Q I rx ry h hs;obtain⟨z,i,c,rfl,rfl,hz,he,q⟩:=h;obtain⟨t,rfl⟩:=rx;obtain⟨t',rfl⟩:=ry;obtain⟨j,h1,h2,h3,h4,h5⟩:=vt he;have hl:z.cps.toList.length=z.length:=by simp[Str.length]
 rw[hl]at h1 h4 h5;have hn:=sE;exact tail_any (typeIs_str s z t) slot_str_getitem.lookup (getItem_str (c:=c) (by
  have e1:decide (i< -(2^63:Int))=false:=gh ah;have e2:decide (i>=2^63)=false:=gh ah;rw[e1,e2,Yv]) (by rw[h1];simpa using h2) ⟨.str ⟨#[c]⟩,H,I.Ig _,⟨_,rfl⟩,q⟩) hs
def rIx(K:aE):R2:=λ x y H Q=>zQ K x y H Q\/Qj K x y H Q\/Yr x y H Q
theorem vX:Qi X (rIx X.K):=be.or (qg.or Vm)
theorem El(bb:List aq)(n j:Nat)(u:aq):dN (·.setIfInBounds j u) {cls:=.type "list",data:=.seq bb.toArray n}={cls:=.type "list",data:=.seq (bb.set j u).toArray n}:=by
 simp[dN]
theorem aZ.aD{pins:List (Addr×Obj)}{σ:St}{H:Hp}{s:ap}{p:Addr}{xs:List V}(I:aZ X pins σ H s)(h:H p=some (.aD xs)):
  ∃(bb:List aq)(n:Nat),bv xs bb/\s.heap.get? p=some {cls:=.type "list",data:=.seq bb.toArray n}/\xs.length<=sizeLine:=by
 obtain⟨z,bb,n,r,e⟩:=I.db p _ h;exact⟨bb,n,r,e,z⟩
theorem aZ.Vn{pins:List (Addr×Obj)}{σ:St}{H:Hp}{s:ap}{p:Addr}{xs ys:List V}{bb its':List aq}{n n':Nat}{f:Obj ->Obj}(I:aZ X pins σ H s)(h:H p=some (.aD xs))
  (ho:s.heap.get? p=some {cls:=.type "list",data:=.seq bb.toArray n}) (hf:f {cls:=.type "list",data:=.seq bb.toArray n}={cls:=.type "list",data:=.seq its'.toArray n'}) (r:bv ys its') (hz:ys.length<=sizeLine) (t:Nat):
  aZ X pins σ (aS H p (.aD ys)) {s with heap:=s.heap.update p f,toks:=t}:=by
 have e:(s.heap.update p f).get? p=some {cls:=.type "list",data:=.seq its'.toArray n'}:=by
  rw[Yw f ho (by rw[hf]<;>rfl),hf]
 refine I.tQ (x:=p) (e:=p) (by rw[h];trivial) (.inl rfl) (λ b u hb q=>(Yx _ _ (qb hb)).trans q) ⟨_,e⟩ ?_;exact⟨hz,its',n',r,e⟩
def Yy:V ->V ->V ->Hp ->(Hp ->Prop) ->Prop:=λ o i v H Q=>∃p xs k j,o=.ref p/\i=.int k/\H p=some (.aD xs)/\DO xs.length k=some j/\Q (aS H p (.aD (xs.set j v)))
theorem qM:U7 X Yy:=by
 intro pins s σ H o i v ov iv u Q I ro ri rv h;obtain⟨p,xs,k,j,rfl,rfl,hp,hj,q⟩:=h;cases ro;obtain⟨t,rfl⟩:=ri;obtain⟨bb,n,r,ho,hz⟩:=I.aD hp;obtain⟨h1,h2,h3,h4⟩:=Gn hj;have hl:=r.length;have hn:=sE;have I':aZ X pins σ (aS H p (.aD (xs.set j v))) {s with heap:=s.heap.update p (dN (·.setIfInBounds j u))}:=
  I.Vn hp ho (El bb n j u) (r.set rv j) (by rw[i8];exact hz) s.toks
 by_cases h0:0<=k
 .have hk:k.toNat=j:=by
   rw[K9 h0 h4]at h1;exact cT h1
  exact PySem.W.ki_setAt ho h0 ah (by rw[cV,<-hl];exact h4) (by rw[hk];exact⟨_,I',q⟩)
 .have hk:(k+(bb.toArray.size:Int)).toNat=j:=by
   rw[seqIndex_neg ah h3]at h1;rw[cV,<-hl];exact cT h1
  exact PySem.W.ki_setBack ho ah (by rw[cV,<-hl];exact h3) ah (by rw[hk];exact⟨_,I',q⟩)
theorem zR(lo hi:Option Int)(n:Nat):(sliceBounds lo hi none n).1=((HT.BB n 0 lo:Nat):Int)/\(sliceBounds lo hi none n).2.1=((HT.BB n n hi:Nat):Int)/\(sliceBounds lo hi none n).2.2=1:=by
 refine⟨?_,?_,rfl⟩
 .cases lo with
  |none=>simp[sliceBounds,HT.BB]
  |some i=>
   simp only[sliceBounds,HT.BB,Yz,show(1:Int)>0 by decide,mo];by_cases h:i<0
   .simp only[h,mo]<;>omega
   .simp only[h,pH]<;>omega
 .cases hi with
  |none=>simp[sliceBounds,HT.BB]
  |some i=>
   simp only[sliceBounds,HT.BB,Yz,show(1:Int)>0 by decide,mo];by_cases h:i<0
   .simp only[h,mo]<;>omega
   .simp only[h,pH]<;>omega
theorem yc(bb:List aq)(lo hi:Option Int):slicePick bb.toArray lo hi none=((bb.drop (HT.BB bb.length 0 lo)).take (HT.BB bb.length bb.length hi -HT.BB bb.length 0 lo)).toArray:=by
 obtain⟨h1,h2,h3⟩:=zR lo hi bb.toArray.size;unfold slicePick;rw[h1,h2,h3];simp only[sliceRange_one,pick_run,cV]<;>rfl
def YA(K:aE):V ->Option Int ->Option Int ->Hp ->VK ->Prop:=λ x lo hi H Q=>∃a xs,x=.ref a/\aP K H a xs/\∀p,H p=none ->Q (.ref p) (aS H p (.aD (qL xs lo hi)))
theorem qN:SlR X (YA X.K):=by
 intro pins s σ H x v vl vu lo hi sl Q I rx hs pl pu h;obtain⟨a,xs,rfl,hx,q⟩:=h;cases rx;obtain⟨bb,r,ht,hz⟩:=I.list hx;have bH:=r.length;refine⟨"list",_,Yt.lookup,ht.isList.typeIs,?_⟩;refine wpAny_getItem_list_slice ht.isList hs pl pu .none aL ?_ (by rw[cV]<;>omega);rw[yc,<-bH];refine⟨.ref s.heap.objs.size,_,I.sB (t':=s.toks) (o:=.aD (qL xs lo hi)) (λ b ob q=>cf _ q) (ci _) ?_,rfl,q _ (I.db.fresh (ci _))⟩;exact⟨fB (BD xs lo hi) hz,_,0,(r.drop (HT.BB xs.length 0 lo)).take (HT.BB xs.length xs.length hi -HT.BB xs.length 0 lo),fN _ rfl⟩
def t9:V ->Bool
 |.bu=>true
 |.bl _=>true
 |.int _=>true
 |.str _=>true
 |_=>false
def S2:V ->V ->Bool
 |.bu,.bu=>true
 |.bl a,.bl b=>a==b
 |.bl a,.int b=>(if a then 1 else 0)==b
 |.int a,.bl b=>a==(if b then 1 else 0)
 |.int a,.int b=>a==b
 |.str a,.str b=>a==b
 |_,_=>false
theorem Vo{A:cw}{s:ap}{y x:V}{u v:aq}(ry:bT y u)(rx:bT x v)(fy:t9 y=true)(fx:t9 x=true):S0 A s u v (S2 y x):=by
 cases y with
 |bu=>
  cases ry;cases x with
  |bu=>cases rx;exact SeqAt.EqAt.same _
  |bl b=>cases rx;exact SeqAt.EqAt.none_bool b
  |int b=>obtain⟨t,rfl⟩:=rx;exact SeqAt.EqAt.none_int b t
  |str b=>obtain⟨t,rfl⟩:=rx;exact SeqAt.EqAt.none_str b t
  |_=>exact absurd (show false=true from fx) iH
 |bl a=>
  cases ry;cases x with
  |bu=>cases rx;exact SeqAt.EqAt.bool_none a
  |bl b=>cases rx;exact SeqAt.EqAt.bool_bool a b
  |int b=>obtain⟨t,rfl⟩:=rx;exact SeqAt.EqAt.bool_int a b t
  |str b=>obtain⟨t,rfl⟩:=rx;exact SeqAt.EqAt.bool_str a b t
  |_=>exact absurd (show false=true from fx) iH
 |int a=>
  obtain⟨t',rfl⟩:=ry;cases x with
  |bu=>cases rx;exact SeqAt.EqAt.int_none a t'
  |bl b=>cases rx;exact SeqAt.EqAt.int_bool a t' b
  |int b=>obtain⟨t,rfl⟩:=rx;exact Yo a t' b t
  |str b=>obtain⟨t,rfl⟩:=rx;exact abP a t' b t
  |_=>exact absurd (show false=true from fx) iH
 |str a=>
  obtain⟨t',rfl⟩:=ry;cases x with
  |bu=>cases rx;exact SeqAt.EqAt.str_none a t'
  |bl b=>cases rx;exact SeqAt.EqAt.str_bool a t' b
  |int b=>obtain⟨t,rfl⟩:=rx;exact abQ a t' b t
  |str b=>obtain⟨t,rfl⟩:=rx;exact SeqAt.EqAt.str_str a t' b t
  |_=>exact absurd (show false=true from fx) iH
 |_=>exact absurd (show false=true from fy) iH
def Qk(x:V)(u:aq):Bool:=match u with
 |.none=>S2 .bu x
 |.bool b=>S2 (.bl b) x
 |.int i _=>S2 (.int i) x
 |.str z _=>S2 (.str z) x
 |_=>false
theorem La{x y:V}{u:aq}(r:bT y u)(f:t9 y=true):Qk x u=S2 y x:=by
 cases y with
 |bu=>cases r;rfl
 |bl b=>cases r;rfl
 |int i=>obtain⟨t,rfl⟩:=r;rfl
 |str z=>obtain⟨t,rfl⟩:=r;rfl
 |_=>exact absurd (show false=true from f) iH
theorem zS{x:V}:∀{xs:List V}{us:List aq},bv xs us ->xs.all t9=true ->us.any (Qk x)=xs.any λ y=>S2 y x
 |_,_,.nil,_=>rfl
 |y::xs,u::us,.cons r t,f=>by
  rw[Lb,bq]at f;rw[YB,YB,La r f.1,zS t f.2]
theorem vY{A:cw}{s:ap}{x:V}{v:aq}(rx:bT x v)(fx:t9 x=true):∀{xs:List V}{us:List aq},bv xs us ->xs.all t9=true ->∀u∈us,S0 A s u v (Qk x u)
 |_,_,.nil,_=>λ u hu=>by cases hu
 |y::xs,u::us,.cons r t,f=>λ u' hu=>by
  rw[Lb,bq]at f;rcases eB.mp hu with rfl|hu
  .rw[La r f.1];exact Vo r rx f.1 fx
  .exact vY rx fx t f.2 u' hu
def YC(x:V)(xs:List V):Bool:=xs.any λ y=>S2 y x
def rIn(K:aE)(neg:Bool):R2:=λ x y H Q=>∃p xs,y=.ref p/\(aP K H p xs\/e9 K H p xs)/\t9 x=true/\xs.all t9=true/\Q (.bl (if neg then !YC x xs else YC x xs)) H
theorem Iz:uT X (compareOp .In) (rIn X.K false):=by
 intro pins s σ H x y v u Q I rx ry h;obtain⟨p,xs,rfl,hq,fx,fs,q⟩:=h;cases ry;rcases hq with hq|hq
 .obtain⟨bb,r,pl,hz⟩:=I.list hq;refine SeqAt.in_listAt (Qk x) pl.isList (λ w hw=>vY rx fx r fs w (by simpa using hw)) ⟨.bl _,H,I,rfl,?_⟩;rw[show bb.toArray.any (Qk x)=bb.any (Qk x) by simp,zS r fs];exact q
 .obtain⟨bb,r,pl,hz⟩:=I.tuple hq;refine SeqAt.in_tupleAt (Qk x) pl (λ w hw=>vY rx fx r fs w (by simpa using hw)) ⟨.bl _,H,I,rfl,?_⟩;rw[show bb.toArray.any (Qk x)=bb.any (Qk x) by simp,zS r fs];exact q
theorem aW:nv X (.builtin "len") (λ xs H Q=>∃p ys,xs=[.ref p]/\(aP X.K H p ys\/e9 X.K H p ys)/\Q (.int ys.length) H):=by
 intro pins s σ H xs us Q I r h;obtain⟨p,ys,rfl,hq,q⟩:=h;obtain⟨u,rfl,rx⟩:=SO r;cases rx;have hn:=sE;rcases hq with hq|hq
 .obtain⟨bb,r',pl,hz⟩:=I.list hq;have bH:=r'.length;exact Calls.call_len_list pl.isList (by simp only[cV]<;>omega) ⟨.int ys.length,H,I.Ig _,⟨s.toks+1,by rw[cV,bH]⟩,q⟩
 .obtain⟨bb,r',pl,hz⟩:=I.tuple hq;have bH:=r'.length;exact len_tuple pl (by simp only[cV]<;>omega) ⟨.int ys.length,H,I.Ig _,⟨s.toks+1,by rw[cV,bH]⟩,q⟩
theorem zT:nv X (.type "list") (λ xs H Q=>∃p ys,xs=[.ref p]/\(aP X.K H p ys\/e9 X.K H p ys)/\∀l,H l=none ->Q (.ref l) (aS H l (.aD ys))):=by
 intro pins s σ H xs us Q I r h;obtain⟨p,ys,rfl,hq,q⟩:=h;obtain⟨u,rfl,rx⟩:=SO r;cases rx;have fin:∀(bb:List aq),bv ys bb ->ys.length<=sizeLine ->∀(h':Heap)(c':Nat),(∀b o',s.heap.get? b=some o' ->h'.get? b=some o') ->
   h'.get? s.heap.objs.size=some {cls:=.type "list",dict:=none,data:=.seq bb.toArray c',slots:=#[]} ->EP X pins σ Q (.ref s.heap.objs.size) {s with heap:=h'}:=λ bb r' hz h' c' kp e=>
  ⟨.ref s.heap.objs.size,_,I.sB (t':=s.toks) kp (ci _) (show gm X.prog X.w _ h' _ (.aD ys) from⟨hz,bb,c',r',e⟩),rfl,q _ (I.db.fresh (ci _))⟩
 rcases hq with hq|hq
 .obtain⟨bb,r',pl,hz⟩:=I.list hq;have bH:=r'.length;obtain⟨o,ho,hc,n,hd⟩:=pl.isList;exact call_list_seq p (.inl rfl) ho hc hd (λ h' c' kp e=>fin bb r' hz h' c' kp e) (by simp only[cV]<;>omega)
 .obtain⟨bb,r',pl,hz⟩:=I.tuple hq;have bH:=r'.length;obtain⟨o,ho,hc,n,hd⟩:=pl;exact call_list_seq p (.inr rfl) ho hc hd (λ h' c' kp e=>fin bb r' hz h' c' kp e) (by simp only[cV]<;>omega)
def tyV(K:aE)(T:String)(x:V)(H:Hp):Prop:=match x with
 |.str _=>T="str"
 |.int _=>T="int"
 |.ref p=>(T="list"/\∃xs,aP K H p xs)\/(T="tuple"/\∃o,K.lookup p=some o/\o.cls=.type "tuple"/\o.dict=none)\/
   (T="dict"/\((∃kU,H p=some (.dK kU))\/∃kU,H p=some (.dT kU)))\/(T="set"/\∃S n,H p=some (.set S n))
 |_=>False
theorem Vp{pins:List (Addr×Obj)}{σ:St}{H:Hp}{s:ap}{T:String}{x:V}{v:aq}(I:aZ X pins σ H s)(r:bT x v)(ty:tyV X.K T x H):
  s.TypeIs v T/\∀a,v=.ref a ->∃ob,s.heap.get? a=some ob/\ob.dict=none:=by
 cases x with
 |str z=>
  obtain⟨t,rfl⟩:=r;cases(show T="str" from ty);exact⟨typeIs_str s z t,λ _ e=>nomatch e⟩
 |int i=>
  obtain⟨t,rfl⟩:=r;cases(show T="int" from ty);exact⟨Go s i t,λ _ e=>nomatch e⟩
 |ref p=>
  cases r;rcases ty with⟨rfl,xs,hq⟩|⟨rfl,o,hk,hc,hd⟩|⟨rfl,hk⟩|⟨rfl,S,n,hk⟩
  .obtain⟨bb,_,pl,_⟩:=I.list hq;refine⟨pl.isList.typeIs,λ a e=>?_⟩;cases e;obtain⟨o,n,e,c,hd,_⟩:=pl;exact⟨o,e,hd⟩
  .refine⟨⟨o,I.Bc p o hk,hc⟩,λ a e=>?_⟩;cases e;exact⟨o,I.Bc _ o hk,hd⟩
  .have z:∃o,s.heap.get? p=some o/\o.ExactDict:=by
    rcases hk with⟨kU,hk⟩|⟨kU,hk⟩
    .obtain⟨_,_,_,_,o,_,_,e,ex,_⟩:=I.db p _ hk;exact⟨o,e,ex⟩
    .obtain⟨_,_,_,_,o,_,_,e,ex,_⟩:=I.db p _ hk;exact⟨o,e,ex⟩
   obtain⟨o,e,ex⟩:=z;refine⟨⟨o,e,ex.1⟩,λ a e2=>?_⟩;cases e2;exact⟨o,e,ex.2.1⟩
  .obtain⟨o,_,_,_,e,ex,_⟩:=I.db p _ hk;refine⟨⟨o,e,ex.1⟩,λ a e2=>?_⟩;cases e2;exact⟨o,e,ex.2.1⟩
 |_=>exact jZ ty
def tBM(K:aE)(T:String)(r:V ->List V ->Hp ->VK ->Prop)(to:TE)(t:TA):TE:=λ σ H Q=>to σ H λ x H1=>tyV K T x H1/\t σ H1 λ xs H2=>r x xs H2 Q
variable{o e:Expr}{es:List Expr}{to:TE}{t:TA}{name:Str}{k5 zU:Pos}{T id:String}{r:V ->List V ->Hp ->VK ->Prop}
theorem iK(pa:PlainAttrs T)(slot:Slot T name id)(hty:typeOf (.builtin id)=pure (.type "method_descriptor"))(hm:MtR X id r)(ho:PE X o to)(ha:PA X (e::es) t)
  (YD:attributeBase o name X.aC (eval o X.aC)=eval o X.aC:=by rfl)
  (acw:((backTo zU (starEach (e::es) X.aC)).all (λ x=> !x.1)&&(backToKw zU (keywordEach [] X.aC)).all (λ x=>x.1.isSome)
   &&decide ((e::es).length+([]:List KZ).length+(if([]:List KZ).isEmpty then 0 else 1)<30))=true:=by rfl)
  (YE:(k5.endLine==zU.line)=true:=by rfl) (hs:starEach (e::es) X.aC=(false,eval e X.aC)::starEach es X.aC:=by rfl) (hplain:(backTo zU (starEach es X.aC)).any (·.1)=false:=by rfl):
  PE X (.Call (.Attribute o name k5) (e::es) [] zU) (tBM X.K T r to t):=by
 intro pins s σ H Q I h;refine wpAny_Call_method_late YD acw YE rfl (dQ (ho pins s σ H _ I h) λ v s1 ⟨x,H1,I1,r1,ty,q1⟩=>?_);obtain⟨h1,h2⟩:=Vp I1 r1 ty;refine⟨T,id,pa,slot,hty,h1,h2,?_⟩;have hA:=ha zU pins s1 σ H1 _ I1 q1;rw[hs]at hA⊢;refine Calls.callWith_builtin (by show(false||(backTo zU (starEach es X.aC)).any (·.1))=false;rw[hplain]<;>rfl) (Calls.evalArgs_plain ?_);exact dQ hA λ us s2 ⟨vs,H2,I2,r2,q2⟩=>hm pins s2 σ H2 x vs v us Q I2 r1 r2 q2
end
end L2
namespace L2
open PySem PySem.Spec PyProof.Rows
def MtM(X:Cx)(id:String)(r:V ->List V ->Hp ->VK ->Prop):Prop:=
 ∀(pins:List (Addr×Obj))(s:ap)(σ:St)(H:Hp)(x:V)(xs:List V)(v:aq)(us:List aq)(Q:VK),aZ X pins σ H s ->bT x v ->bv xs us ->r x xs H Q ->
  wpAny (model X.prog X.w) X.A (call (.builtin id) (v::us)) (EP X pins σ Q) X.xe s
theorem bv.BE:∀{x:V}{us:List aq},bv [x] us ->∃u,us=[u]/\bT x u
 |_,_,.cons r .nil=>⟨_,rfl,r⟩
theorem bv.rep{xs:List V}{us:List aq}(h:bv xs us):∀k:Nat,bv (k6 k xs).flatten (k6 k us).flatten
 |0=>.nil
 |k+1=>by
  rw[Gp,Gp,Lc,Lc];exact bv.append h (bv.rep h k)
theorem yE(bb:List aq):∀(k:Nat)(acc:List aq),
  S3 (λ x1 x2=>x1++x2) acc.toArray (k6 k bb.toArray)=(acc++(k6 k bb).flatten).toArray
 |0,acc=>by simp
 |k+1,acc=>by
  have e:acc.toArray++bb.toArray=(acc++bb).toArray:=by simp
  have e2:(acc++bb)++(k6 k bb).flatten=acc++(k6 (k+1) bb).flatten:=by
   rw[Gp,Lc,Gq]
  rw[<-e2,<-yE bb k (acc++bb),<-e,Gp,qO]
section
variable{X:Cx}{pins:List (Addr×Obj)}{σ:St}{H:Hp}{s:ap}{l b:Addr}{xs ys zs:List V}
theorem aZ.YF{bb its':List aq}{n:Nat}{f:Array aq ->Array aq}{t':Nat}(I:aZ X pins σ H s)(hH:H l=some (.aD xs))
  (e:s.heap.get? l=some {cls:=.type "list",data:=.seq bb.toArray n}) (hf:f bb.toArray=its'.toArray) (hv:bv ys its') (hz:ys.length<=sizeLine):
  aZ X pins σ (aS H l (.aD ys)) {s with heap:=s.heap.update l (dN f),toks:=t'}:=by
 have q:=PySem.IsL.update e f;rw[hf]at q;refine I.tQ (x:=l) (e:=l) (by rw[hH];exact trivial) (.inl rfl) (λ b' u hb hu=>(Yx s.heap (dN f) (qb hb)).trans hu) ⟨_,q⟩ ?_;exact⟨hz,its',_,hv,q⟩
theorem aZ.YG{bb:List aq}{t':Nat}(I:aZ X pins σ H s)(hv:bv ys bb)(hz:ys.length<=sizeLine):
  aZ X pins σ (aS H s.heap.objs.size (.aD ys)) {s with heap:=s.heap.push {cls:=.type "list",data:=.seq bb.toArray},toks:=t'}:=
 I.sB (λ _ _ q=>cf _ q) (ci _) ⟨hz,bb,0,hv,fN _ rfl⟩
theorem aZ.fresh(I:aZ X pins σ H s):H s.heap.objs.size=none:=I.db.fresh (ci _)
theorem aZ.IA(I:aZ X pins σ H s)(hH:H l=some (.aD xs)):xs.length<=sizeLine/\∃(bb:List aq)(n:Nat),bv xs bb/\xs.length=bb.length/\s.heap.get? l=some {cls:=.type "list",data:=.seq bb.toArray n}:=by
 obtain⟨z,bb,n,r,e⟩:=I.db l _ hH;exact⟨z,bb,n,r,r.length,e⟩
theorem BF{n:Nat}(h:n<=sizeLine):Ld n=false:=by
 unfold Ld;exact gh ah
end
section
variable{X:Cx}
def Ql:V ->List V ->Hp ->VK ->Prop:=λ x vs H Q=>∃l xs y,x=.ref l/\vs=[y]/\H l=some (.aD xs)/\xs.length<sizeLine/\Q .bu (aS H l (.aD (xs++[y])))
theorem jx:MtM X "list.append" Ql:=by
 intro pins s σ H x vs v us Q I rx rv h;obtain⟨l,xs,y,rfl,rfl,hH,hz,q⟩:=h;cases rx;obtain⟨u,rfl,ru⟩:=rv.BE;obtain⟨z,bb,n,r,hl,e⟩:=I.IA hH;refine Le yF ⟨_,e,rfl⟩ F.entry_list_append (F.args_list_append_2 _ _) (PySem.list_append l bb.toArray n u (by rw[cV];omega)) ⟨e,?_⟩;refine⟨.bu,_,I.YF (its':=bb++[u]) hH e aL (r.append (.cons ru .nil)) ?_,rfl,q⟩;rw[dc,List.length_singleton];omega
def Qm:V ->List V ->Hp ->VK ->Prop:=λ x vs H Q=>∃l b xs zs,x=.ref l/\vs=[.ref b]/\H l=some (.aD xs)/\H b=some (.aD zs)/\xs.length+zs.length<=sizeLine/\Q .bu (aS H l (.aD (xs++zs)))
theorem e_:MtM X "list.extend" Qm:=by
 intro pins s σ H x vs v us Q I rx rv h;obtain⟨l,b,xs,zs,rfl,rfl,hH,hB,hz,q⟩:=h;cases rx;obtain⟨u,rfl,ru⟩:=rv.BE;cases ru;obtain⟨z,bb,n,r,hl,e⟩:=I.IA hH;obtain⟨z2,mT,n2,r2,mX,e2⟩:=I.IA hB;have hsz:bb.toArray.size+mT.toArray.size<=sizeLine:=by rw[cV,cV];omega
 have Lf:¬(!bb.toArray.isEmpty&&Ld (bb.toArray.size+mT.toArray.size))=true:=by
  rw[BF hsz,BG];exact iH
 refine Le pJ ⟨_,e,rfl⟩ F.entry_list_extend (F.args_list_extend_2 _ _)
  (AutoSeq1.list_extend_list_list_0 l bb.toArray n b mT.toArray n2 Lf (by rw[cV];omega) ah) ⟨e,e2,?_⟩
 refine⟨.bu,_,I.YF (its':=bb++mT) hH e aL (r.append r2) ?_,rfl,q⟩;rw[dc];omega
def acx:R2:=λ x y H Q=>∃l b xs zs,x=.ref l/\y=.ref b/\H l=some (.aD xs)/\H b=some (.aD zs)/\xs.length+zs.length<=sizeLine/\∀p,H p=none ->Q (.ref p) (aS H p (.aD (xs++zs)))
theorem vZ:uT X (binaryOp .Add) acx:=by
 intro pins s σ H x y v u Q I rx ry h;obtain⟨l,b,xs,zs,rfl,rfl,hH,hB,hz,q⟩:=h;cases rx;cases ry;obtain⟨z,bb,n,r,hl,e⟩:=I.IA hH;obtain⟨z2,mT,n2,r2,mX,e2⟩:=I.IA hB;refine PySem.P.add_list e e2 ?_ (by rw[cV,cV];omega);have ea:bb.toArray++mT.toArray=(bb++mT).toArray:=by simp
 rw[ea];exact⟨.ref _,_,I.YG (t':=s.toks) (r.append r2) (by rw[dc];omega),rfl,q _ I.fresh⟩
def acy:R2:=λ x y H Q=>∃l k xs,x=.ref l/\y=.int k/\H l=some (.aD xs)/\-(2^63)<=k/\k<2^63/\xs.length*k.toNat<=sizeLine/\
 ∀p,H p=none ->Q (.ref p) (aS H p (.aD (k6 k.toNat xs).flatten))
theorem Qo{α:Type}(xs:List α)(k:Nat):(k6 k xs).flatten.length=k*xs.length:=by
 induction k with
 |zero=>simp
 |succ k ih=>rw[Gp,Lc,dc,ih,Nat.succ_mul,YH]
theorem Vq:uT X (binaryOp .Mult) acy:=by
 intro pins s σ H x y v u Q I rx ry h;obtain⟨l,k,xs,rfl,rfl,hH,h1,h2,hz,q⟩:=h;cases rx;obtain⟨t,rfl⟩:=ry;obtain⟨z,bb,n,r,hl,e⟩:=I.IA hH;have bH:bb.toArray.size*k.toNat<=sizeLine:=by rw[cV,<-hl];exact hz
 have acz:¬bb.toArray.size*k.toNat>(2^63 -1)/8:=by
  have:(sizeLine:Nat)<=(2^63 -1)/8:=by decide
  omega
 have acA:¬(!Builtin.List.listFitsIndex k)=true:=by
  rw[fitsIndex_both h1 h2];exact iH
 have Lf:¬Ld (bb.toArray.size*k.toNat)=true:=by
  rw[BF bH];exact iH
 have acB:S3 (λ x1 x2=>x1++x2) #[] (k6 (if bb.toArray.isEmpty=true then 0 else k.toNat) bb.toArray)=(k6 k.toNat bb).flatten.toArray:=by
  have f0:∀m:Nat,S3 (λ x1 x2=>x1++x2) #[] (k6 m bb.toArray)=(k6 m bb).flatten.toArray:=λ m=>by
   have:=yE bb m [];rw[t_]at this;exact this
  rw[f0];cases bb with
  |nil=>simp
  |cons a r'=>rw[ao aL]
 refine wpAny_binaryOp_repeat_ref (T:="list") (U:="int") zq_dc ⟨_,e,rfl⟩ (λ s'=>Go s' k t) noFill_list_mul F.fills_int_mul YI repeat_list F.slot_int_index.lookup
  (Le YI (Go s k t) F.entry_int_rmul (F.args_int_rmul_2 _ _) (int___rmul___int_list k t l bb.toArray n)
   ⟨e,rfl,⟨_,e,rfl⟩,Le F.slot_list_mul ⟨_,e,rfl⟩ F.entry_list_mul (F.args_list_mul_2 _ _) (AutoListH.list___mul___list_int_3 l bb.toArray n k t acA acz Lf) ⟨e,?_⟩⟩)
 rw[acB];exact⟨.ref _,_,I.YG (t':=s.toks) (r.rep k.toNat) (by rw[Qo,j9];exact hz),rfl,q _ I.fresh⟩
end
section
variable{prog:dz}{w:c9}{A:cw}{E:aq ->ap ->Prop}{s:ap}
end
section
variable{X:Cx}
end
end L2
namespace L2
open PySem PySem.Spec PyProof.Rows
theorem bv.ints:∀{ns:List Int}{us:List aq},bv (ns.map V.int) us ->i7 us ns
 |[],us,h=>by
  rw[vW]at h;cases h;exact IntsAre.nil
 |n::ns,us,h=>by
  rw[dW]at h;cases h with
  |cons r t=>
   obtain⟨k,rfl⟩:=r;exact IntsAre.cons n k (bv.ints t)
theorem qP:∀{us:List aq}{ns:List Int},i7 us ns ->bv (ns.map V.int) us
 |_,_,.nil=>by rw[vW];exact YJ
 |_,_,.cons n t h=>by rw[dW];exact YK (show bT (V.int n) (uN n t) from⟨t,rfl⟩) (qP h)
theorem bv.bls:∀{bs:List Bool}{us:List aq},bv (bs.map V.bl) us ->us=bs.map Bo
 |[],us,h=>by
  rw[vW]at h;cases h;rfl
 |b::bs,us,h=>by
  rw[dW]at h;cases h with
  |cons r t=>
   cases r;rw[bv.bls t,dW]
theorem bv.Lg{a:Addr}{us:List aq}(r:bv [V.ref a] us):us=[ji a]:=by
 cases r with
 |cons r t=>
  cases t;cases r;rfl
section
variable{prog:dz}{w:c9}{A:cw}{E:aq ->ap ->Prop}{s:ap}{l:Addr}{bb:List aq}{ns:List Int}{Q:aq ->ap ->Prop}
theorem Qp(hh:A.handled=none)(hl:s.heap.IsList l bb.toArray)(hi:i7 bb ns)
  (h:∀h' tk t',(∀b o,s.heap.get? b=some o ->h'.get? b=some o) ->Q (.int ns.sum t') {s with heap:=h',toks:=tk}):wpAny (model prog w) A (call (.builtin "sum") [.ref l]) Q E s:=by
 obtain⟨xs,e⟩:=hi.allInts.items;have hn:numsOf (intItems xs).toList=ns:=by rw[<-e];exact hi.numsOf
 rw[nums_intItems]at hn;rw[e]at hl;refine PySem.sum_intListG hh hl λ h' tk t' hk=>?_
 have:=h h' tk t' hk;rw[preSum_eq,nG aL,hn];exact this
theorem Qq(hh:A.handled=none)(hl:s.heap.IsList l bb.toArray)(hi:i7 bb ns)(jD:0<ns.length)
  (h:∀h' tk M t',(∀b o,s.heap.get? b=some o ->h'.get? b=some o) ->M∈ns ->(∀a,a∈ns ->a<=M) ->Q (.int M t') {s with heap:=h',toks:=tk}):wpAny (model prog w) A (call (.builtin "max") [.ref l]) Q E s:=by
 obtain⟨xs,e⟩:=hi.allInts.items;have hn:numsOf (intItems xs).toList=ns:=by rw[<-e];exact hi.numsOf
 rw[nums_intItems]at hn;subst hn;rw[e]at hl;have hsz:0<xs.size:=by simpa using jD
 refine PySem.max_intList hh hl hsz λ v h' tk hv hk=>?_
 obtain⟨t,rfl⟩:=intItems_at hv;obtain⟨h1,h2⟩:=argBest_gt (numAt xs) (xs.size -1);refine h h' tk _ t hk ?_ λ a ha=>?_
 .rw[numAt_eq];exact PySem.getD_mem (by rw[ak,zH];omega)
 .obtain⟨j,hj,rfl⟩:=mem_getD ha;rw[ak,zH]at hj;rw[<-numAt_eq];exact h2 j ah
end
section
variable{X:Cx}
def acC(K:aE):List V ->Hp ->VK ->Prop:=λ vs H Q=>∃(a:Addr)(ns:List Int),vs=[V.ref a]/\aP K H a (ns.map V.int)/\Q (.int ns.sum) H
def acD(K:aE):List V ->Hp ->VK ->Prop:=λ vs H Q=>∃(a:Addr)(ns:List Int),vs=[V.ref a]/\aP K H a (ns.map V.int)/\0<ns.length/\∀m,m∈ns ->(∀y,y∈ns ->y<=m) ->Q (.int m) H
theorem zV(hc:X.mS=true):nv X (.builtin "sum") (acC X.K):=by
 intro pins s σ H vs us Q I r h;obtain⟨a,ns,rfl,hs,q⟩:=h;obtain⟨bb,rv,hl,_⟩:=I.list hs;rw[bv.Lg r];exact Qp (I.ok.hd hc) hl.isList rv.ints λ h' tk t' hk=>⟨.int _,H,I.fw hk,⟨_,rfl⟩,q⟩
theorem Vr(hc:X.mS=true):nv X (.builtin "max") (acD X.K):=by
 intro pins s σ H vs us Q I r h;obtain⟨a,ns,rfl,hs,jD,q⟩:=h;obtain⟨bb,rv,hl,_⟩:=I.list hs;rw[bv.Lg r];exact Qq (I.ok.hd hc) hl.isList rv.ints jD λ h' tk m t' hk h1 h2=>⟨.int _,H,I.fw hk,⟨_,rfl⟩,q m h1 h2⟩
def Qr(K:aE):List V ->Hp ->VK ->Prop:=λ vs H Q=>∃(a:Addr)(ns:List Int),vs=[V.ref a]/\aP K H a (ns.map V.int)/\ns.length<64/\
 ∀(DN:List Int)(p:Addr),DN.Perm ns ->DN.Pairwise (·<=·) ->H p=none ->Q (.ref p) (aS H p (.aD (DN.map V.int)))
theorem Qs{n:Nat}(h:n<64):n<=sizeLine:=by rw[F_];omega
theorem yG:nv X (.builtin "sorted") (Qr X.K):=by
 intro pins s σ H vs us Q I r h;obtain⟨a,ns,rfl,hs,h64,q⟩:=h;obtain⟨bb,rv,hl,_⟩:=I.list hs;rw[bv.Lg r];have hi:=rv.ints;refine PyProof.Rows.sorted_ints hl.isList hi (by rw[hi.length];exact h64) λ Gr DN h1 h2 h3=>?_
 obtain⟨ep,he'⟩:=PyProof.Rows.sortedAll_at s.heap bb Gr;have bH:(DN.map V.int).length<=sizeLine:=by rw[ak,h2.length_eq];exact Qs h64
 exact⟨.ref _,aS H (s.heap.objs.size+1) (.aD (DN.map V.int)),I.sB (t':=s.toks) (λ _ _=>PyProof.Rows.sortedAll_old) (t8 _) ⟨bH,Gr.toList,ep,qP h1,he'⟩,rfl,q DN _ h2 h3 (I.db.fresh (t8 _))⟩
end
section
variable{X:Cx}
end
section
variable{X:Cx}
end
theorem BH{prog:dz}{w:c9}{A:cw}{E:aq ->ap ->Prop}{s:ap}{l:Addr}{items:Array aq}{Q:aq ->ap ->Prop}(hl:s.heap.IsList l items)
  (h:∀s₂:ap,s₂={s with heap:=s.heap.push {cls:=.type "list_iterator",data:=.fields #[.ref l,.int 0 0]}} ->
   (s₂.heap.IsListIter s.heap.objs.size l 0/\s₂.heap.IsList l items) ->l≠s.heap.objs.size ->Q (.ref s.heap.objs.size) s₂):wpAny (model prog w) A (pyIter (.ref l)) Q E s:=by
 have dC:l<s.heap.objs.size:=by obtain⟨_,e,_⟩:=hl;exact dB e
 exact Im hl (h _ rfl ⟨⟨_,fN _ rfl,rfl,rfl⟩,hl.push _⟩ (jj dC))
theorem BI{prog:dz}{w:c9}{A:cw}{bs:List Bool}{bb:List aq}(e:bb=bs.map Bo):
  TruthOf prog w A (λ i v=>bb.toArray[i]?=some v) (λ i=>bs.getD i false):=λ i v s Q E hv hq=>by
 have Pl:bb[i]?=some v:=by simpa using hv
 rw[e,aT]at Pl;obtain⟨b,hb,rfl⟩:=Option.map_eq_some_iff.mp Pl;have hg:bs.getD i false=b:=by rw[aG,hb]<;>rfl
 have DM:Q (bs.getD i false) s:=hq;rw[hg]at DM;exact Bq DM
theorem yH:∀bs:List Bool,(bf bs.length).all (λ i=>bs.getD i false)=bs.all id
 |[]=>rfl
 |b::bs=>by
  rw[iI,S4,Lb,ua,Lb,<-yH bs]
  all_goals rfl
section
variable{X:Cx}
def acE(K:aE):List V ->Hp ->VK ->Prop:=λ vs H Q=>∃(a:Addr)(bs:List Bool),vs=[V.ref a]/\aP K H a (bs.map V.bl)/\Q (.bl (bs.all id)) H
theorem Em(hc:X.mS=true):nv X (.builtin "all") (acE X.K):=by
 intro pins s σ H vs us Q I r h;obtain⟨a,bs,rfl,hs,q⟩:=h;obtain⟨bb,rv,hl,_⟩:=I.list hs;rw[bv.Lg r];have hb:=rv.bls;refine call_all_walk (BH hl.isList λ s₂ e2 st jD=>?_);subst e2;refine⟨_,_,_,_,_,_,_,rfl,v0 (A:=X.A.in1) (I.ok.hd hc) _ a jD bb.toArray,st,BI hb,λ h' tk hk=>?_⟩;refine⟨.bl _,H,I.fw λ b o eo=>hk b o (λ Vs=>?_) (cf _ eo),?_,q⟩
 .rcases eB.mp Vs with e1|Vs
  .exact absurd (e1▸dB eo) (vI _)
  .cases Vs
 .show Bo _=Bo _;rw[<-yH,hb,cV,ak]
end
section
variable{X:Cx}{pins:List (Addr×Obj)}{σ:St}{H:Hp}{s:ap}
end
section
variable{X:Cx}
end
end L2
namespace L2
open PySem PySem.Spec PyProof.Rows
abbrev Lh(h:Heap)(c:Addr)(v:Option aq):Prop:=h.IsCell c v
def acF(scope sc:fz):fz:=
 {scope with names:=scope.names.map λ(n,k)=>if(k==.free&&sc.kind==.function&&sc.names.lookup n==some .cell)then(n,.cell)else(n,k)}
def c8(cells:List (Str×Addr)):List (Str×gn) ->List (Str×Addr) ->List (Str×Addr)
 |[],acc=>acc
 |(n,k)::r,acc=>if k==.free then c8 cells r ((n,(cells.lookup n).getD 0)::acc)else c8 cells r acc
theorem qQ(aC:Env)(f:Str×gn ->List (Str×Addr) ->Sem (ForInStep (List (Str×Addr))))
  (hf:∀n k c,f (n,k) c=if k==.free then(do let a<-cellOf aC n;pure (.yield ((n,a)::c)))else pure (.yield c)):
  ∀(names:List (Str×gn))(acc:List (Str×Addr)),(∀y∈names,y.2=.free ->∃c,aC.cells.lookup y.1=some c) ->forIn names acc f=pure (c8 aC.cells names acc)
 |[],acc,_=>by rw[ub];rfl
 |(n,k)::r,acc,h=>by
  rw[v4,hf];have ih:=λ acc=>qQ aC f hf r acc λ y hy=>h y (ff _ hy)
  unfold c8;by_cases hk:(k==qR)=true
  .rw[au hk,au hk];obtain⟨c,hc⟩:=h (n,k) fM (by simpa using hk);have e:cellOf aC n=pure c:=by unfold cellOf;rw[hc]
   rw[e];have e2:(aC.cells.lookup n).getD 0=c:=by rw[hc];rfl
   rw[e2];exact ih _
  .rw[ao hk,ao hk];exact ih _
theorem En{scope:fz}{aC:Env}(h:∀y∈scope.names,y.2=.free ->∃c,aC.cells.lookup y.1=some c):closureFor scope aC=pure (c8 aC.cells scope.names []):=by
 simp only[closureFor];rw[qQ aC _ (λ n k c=>rfl) scope.names [] h];rfl
theorem qh{α:Type}:∀{l:List (Str×α)}{n:Str}{c:α},(n,c)∈l ->∃c',l.lookup n=some c'
 |(k,v)::r,n,c,h=>by
  rw[qS];cases hb:n==k with
  |true=>exact⟨_,rfl⟩
  |false=>
   rcases eB.mp h with e|h
   .cases e;simp at hb
   .exact qh h
theorem j_{cells:List (Str×Addr)}:∀{names:List (Str×gn)}{acc:List (Str×Addr)}{n:Str}{c:Addr},(n,c)∈c8 cells names acc ->(n,c)∈acc\/((n,.free)∈names/\c=(cells.lookup n).getD 0)
 |[],_,_,_,h=>.inl h
 |(m,k)::r,acc,n,c,h=>by
  unfold c8 at h;split at h
  .rename_i hk
   have hk:k=.free:=by simpa using hk
   rcases j_ h with h|⟨h1,h2⟩
   .rcases eB.mp h with e|h
    .cases e;exact .inr ⟨hk▸fM,rfl⟩
    .exact .inl h
   .exact .inr ⟨ff _ h1,h2⟩
  .rcases j_ h with h|⟨h1,h2⟩
   .exact .inl h
   .exact .inr ⟨ff _ h1,h2⟩
theorem nH{cells:List (Str×Addr)}:∀{names:List (Str×gn)}{acc:List (Str×Addr)}{p:Str×Addr},p∈acc ->p∈c8 cells names acc
 |[],_,_,h=>h
 |(m,k)::r,acc,p,h=>by
  unfold c8;split
  .exact nH (ff _ h)
  .exact nH h
theorem nN{cells:List (Str×Addr)}:∀{names:List (Str×gn)}{acc:List (Str×Addr)}{n:Str},(n,.free)∈names ->(n,(cells.lookup n).getD 0)∈c8 cells names acc
 |(m,k)::r,acc,n,h=>by
  unfold c8;rcases eB.mp h with e|h
  .cases e;exact nH fM
  .split
   .exact nN h
   .exact nN h
theorem k_:∀{names:List (Str×gn)}{h:Heap}{acc:List (Str×Addr)}{x:Str}{c:Addr},(x,c)∈cellsFrom h.objs.size names acc ->
  (x,c)∈acc\/((x,.cell)∈names/\h.objs.size<=c/\Lh (pushCells h names) c none)
 |[],_,_,_,_,h=>.inl h
 |(n,k)::r,h,acc,x,c,hm=>by
  unfold cellsFrom at hm;unfold pushCells;split at hm
  .rename_i hk
   rw[au hk];have hk:k=.cell:=by simpa using hk
   rw[<-fD h {cls:=.type "cell",data:=.cell none}]at hm;rcases k_ hm with hm|⟨h1,h2,h3⟩
   .rcases eB.mp hm with e|hm
    .cases e;exact .inr ⟨hk▸fM,ci _,_,Li r _ _ _ (fN _ rfl),rfl⟩
    .exact .inl hm
   .rw[fD]at h2;exact .inr ⟨ff _ h1,Lj h2,h3⟩
  .rename_i hk
   rw[ao hk];rcases k_ hm with hm|⟨h1,h2,h3⟩
   .exact .inl hm
   .exact .inr ⟨ff _ h1,h2,h3⟩
theorem oV:∀{names:List (Str×gn)}{n:Nat}{acc:List (Str×Addr)}{p:Str×Addr},p∈acc ->p∈cellsFrom n names acc
 |[],_,_,_,h=>h
 |(m,k)::r,n,acc,p,h=>by
  unfold cellsFrom;split
  .exact oV (ff _ h)
  .exact oV h
theorem sG:∀{names:List (Str×gn)}{n:Nat}{acc:List (Str×Addr)}{x:Str},(x,.cell)∈names ->∃c,(x,c)∈cellsFrom n names acc
 |(m,k)::r,n,acc,x,h=>by
  unfold cellsFrom;rcases eB.mp h with e|h
  .cases e;exact⟨n,oV fM⟩
  .split
   .exact sG h
   .exact sG h
theorem sI:∀{names:List (Str×gn)}{h:Heap}{acc:List (Str×Addr)}{x y:Str}{c:Addr},(∀p∈acc,p.2<h.objs.size) ->(∀x y c,(x,c)∈acc ->(y,c)∈acc ->x=y) ->
  (x,c)∈cellsFrom h.objs.size names acc ->(y,c)∈cellsFrom h.objs.size names acc ->x=y
 |[],_,_,_,_,_,_,hi,h1,h2=>hi _ _ _ h1 h2
 |(n,k)::r,h,acc,x,y,c,hl,hi,h1,h2=>by
  unfold cellsFrom at h1 h2;split at h1
  .rename_i hk
   rw[au hk]at h2;rw[<-fD h {cls:=.type "cell",data:=.cell none}]at h1 h2;refine sI (h:=h.push _) (λ p hp=>?_) (λ x y c a b=>?_) h1 h2
   .rw[fD];rcases eB.mp hp with rfl|hp
    .exact KQ _
    .exact Lk (hl p hp)
   .rcases eB.mp a with e|a<;>rcases eB.mp b with e'|b
    .cases e;cases e';rfl
    .cases e;exact absurd (hl _ b) (vI _)
    .cases e';exact absurd (hl _ a) (vI _)
    .exact hi _ _ _ a b
  .rename_i hk
   rw[ao hk]at h2;exact sI hl hi h1 h2
theorem BJ{M:Ih}{A:cw}{E:aq ->ap ->Prop}{s:ap}{scope:fz}{globals:Addr}{closure:List (Str×Addr)}{qual:Str}{func:Option Addr}{code:aq}{around:Env}{builtins:Addr}{Q:Env ->ap ->Prop}
  (h:Q (newEnv scope s.heap.objs.size globals (cellsFrom (s.heap.objs.size+1) scope.names closure) qual func code (some around) builtins)
   {s with heap:=pushCells (s.heap.push {cls:=.type "dict",data:=.dict #[]}) scope.names}):
  wpAny M A (newFunctionEnv scope globals closure [] qual func code (some around) builtins) Q E s:=by
 simp only[newFunctionEnv,Option.isSome_some,mo];refine az (wpAny_alloc ?_);refine az (wpAny_layCells _ (λ n k c=>rfl) scope.names closure _ _ ?_);rw[show({s with heap:=s.heap.push {cls:=.type "dict",data:=.dict #[]}}:ap).heap.objs.size=s.heap.objs.size+1 from fD ..];rw[ub];exact az (bY (bY h))
theorem nQ{sc:fz}:∀{names:List (Str×gn)}{x:Str}{k:gn},
  (names.map λ(n,k)=>if(k==qR&&sc.kind==.function&&sc.names.lookup n==some .cell)then(n,S5)else(n,k)).lookup x=some k ->
  ∃k',names.lookup x=some k'/\(k=k'\/(k'=.free/\k=.cell))
 |[],_,_,h=>by simp at h
 |(n,k₀)::r,x,k,h=>by
  have ih:=@nQ sc r x k;have h':pF x ((if(k₀==qR&&sc.kind==.function&&sc.names.lookup n==some .cell)=true then(n,S5)else(n,k₀))::(r.map _))=some k:=h;cases hx:x==n with
  |true=>
   simp only[qS,hx];by_cases hc:(k₀==qR&&sc.kind==.function&&sc.names.lookup n==some .cell)=true
   .rw[au hc]at h';simp only[qS,hx]at h';cases h';simp only[bq,j5]at hc;exact⟨k₀,rfl,.inr ⟨hc.1.1,rfl⟩⟩
   .rw[ao hc]at h';simp only[qS,hx]at h';cases h';exact⟨_,rfl,.inl rfl⟩
  |false=>
   simp only[qS,hx];by_cases hc:(k₀==qR&&sc.kind==.function&&sc.names.lookup n==some .cell)=true
   .rw[au hc]at h';simp only[qS,hx]at h';exact ih h'
   .rw[ao hc]at h';simp only[qS,hx]at h';exact ih h'
structure BK(N:List Str)(sc scope:fz)(own:List (Str×Nat)):Prop where
 kind:scope.kind=.function
 IB:∀y∈scope.names,scope.names.lookup y.1=some y.2
 ix:∀p∈own,N[p.2]?=some p.1
 free:∀y∈scope.names,y.2=.free ->sc.names.lookup y.1=some .cell\/sc.names.lookup y.1=some .free
 own:∀y∈scope.names,y.2=.local\/y.2=.cell ->y.1∈own.map (·.1)\/y.1∉N
def gC(σ:St):List Nat ->St
 |[]=>σ
 |v::vs=>(gC σ vs).set v none
theorem nS(σ:St):∀vs:List Nat,(gC σ vs).length=σ.length
 |[]=>rfl
 |v::vs=>by unfold gC;rw[i8,nS σ vs]
theorem sJ{σ:St}{i:Nat}{x:V}:∀{vs:List Nat},(gC σ vs)[i]?=some (some x) ->σ[i]?=some (some x)/\i∉vs
 |[],h=>⟨h,by simp⟩
 |v::vs,h=>by
  unfold gC at h;by_cases hi:v=i
  .subst hi;by_cases hv:v<(gC σ vs).length
   .rw[qF hv]at h;cases h
   .rw[v5 (by simpa using hv)]at h;cases h
  .rw[o9 hi]at h;obtain⟨h1,h2⟩:=sJ h;exact⟨h1,by simp only[eB,not_or];exact⟨λ e=>hi e.symm,h2⟩⟩
abbrev Cx.zW(X:Cx)(s:ap)(H:Hp)(scope:fz)(gO:Env)(fp:List Addr):Cx:={X with x8:=s,Xc:=H,aC:=gO,aA:=X.stack,ex:=fp,fn:=λ x=>scope.names.lookup x==some .cell,pn:=[],xe:=λ _ _=>False}
section
variable{X:Cx}{pins:List (Addr×Obj)}{σ:St}{H:Hp}{s:ap}
theorem BL{scope:fz}{own:List (Str×Nat)}{fp:List Addr}(I:aZ X pins σ H s)(ok:BK X.N X.aC.scope scope own)(hN:X.N.Nodup)(Eo:∀b∈fp,fA X pins H b/\b<s.heap.objs.size):
  aZ (X.zW s H scope (compEnvC scope (cellsFrom (s.heap.objs.size+1) scope.names (c8 X.aC.cells scope.names [])) s.heap.objs.size X.aC) fp) [] (gC σ (own.map (·.2))) H {s with heap:=pushCells (s.heap.push {cls:=.type "dict",data:=.dict #[]}) scope.names}:=by
 have yw:∀y∈scope.names,y.2=.free ->∃c,X.aC.cells.lookup y.1=some c:=λ y hy e=>by
  rcases ok.free y hy e with k|k
  .exact I.ok.has _ (.inl k)
  .exact I.ok.has _ (.inr k)
 generalize BM:compEnvC scope (cellsFrom (s.heap.objs.size+1) scope.names (c8 X.aC.cells scope.names [])) s.heap.objs.size X.aC=gO;have kp:∀b o,s.heap.get? b=some o ->(pushCells (s.heap.push {cls:=.type "dict",data:=.dict #[]}) scope.names).get? b=some o:=λ b o e=>Li _ _ _ _ (cf _ e)
 have hL:gO.locals=s.heap.objs.size:=by rw[<-BM];rfl
 have zX:gO.cells=cellsFrom (s.heap.objs.size+1) scope.names (c8 X.aC.cells scope.names []):=by rw[<-BM];rfl
 have hsc:gO.scope=acF scope X.aC.scope:=by rw[<-BM];rfl
 rw[<-fD s.heap {cls:=.type "dict",data:=.dict #[]}]at zX;have cm:∀{y c},(y,c)∈c8 X.aC.cells scope.names [] ->X.aC.cells.lookup y=some c/\c<s.heap.objs.size:=λ{y c} hm=>by
  rcases j_ hm with hm|⟨h1,rfl⟩
  .cases hm
  .obtain⟨c,hc⟩:=yw _ h1 rfl;rw[hc];obtain⟨w,z⟩:=I.cell _ _ hc;exact⟨rfl,z.lt⟩
 have mem:∀{y c},gO.cells.lookup y=some c ->(X.aC.cells.lookup y=some c/\c<s.heap.objs.size)\/(s.heap.objs.size+1<=c/\Lh (pushCells (s.heap.push {cls:=.type "dict",data:=.dict #[]}) scope.names) c none):=λ{y c} e=>by
  rw[zX]at e;rcases k_ (iJ e)with hm|⟨_,h2,h3⟩
  .exact .inl (cm hm)
  .rw[fD]at h2;exact .inr ⟨h2,h3⟩
 have Iv:∀{y},scope.names.lookup y=some .free ->∃c,gO.cells.lookup y=some c/\X.aC.cells.lookup y=some c:=λ{y} hl=>by
  have hy:(y,qR)∈scope.names:=iJ hl;obtain⟨c',e'⟩:=qh (oV (names:=scope.names) (n:=(s.heap.push {cls:=.type "dict",data:=.dict #[]}).objs.size) (nN (cells:=X.aC.cells) (acc:=[]) hy));rw[<-zX]at e';refine⟨c',e',?_⟩;rw[zX]at e';rcases k_ (iJ e')with hm|⟨h1,_,_⟩
  .exact(cm hm).1
  .have:=ok.IB _ h1;rw[hl]at this;cases this
 have okB:(X.zW s H scope gO fp).Ok:=by
  refine⟨I.ok.mod,by show gO.scope.kind=_;rw[hsc];exact ok.kind,by show gO.globals=_;rw[<-BM];exact I.ok.uP,by show gO.builtins=_;rw[<-BM];exact I.ok.blt,by show s.heap.objs.size<=gO.locals;rw[hL];exact ci _,
   λ y z c e1 e2=>?_,λ y hy=>?_,λ y c z e=>?_,I.ok.hd,I.ok.frames,.inl rfl,λ b hb=>⟨?_,λ y c e z=>?_⟩,I.bs,fB I.ok.Pk I.sz,λ b o e hb=>?_,λ b hb z=>?_,I.stack,I.zG⟩
  .have e1:gO.cells.lookup y=some c:=e1;have e2:gO.cells.lookup z=some c:=e2;rw[zX]at e1 e2;refine sI (λ p hp=>?_) (λ y z c a b=>I.ok.inj y z c (cm a).1 (cm b).1) (iJ e1) (iJ e2);rw[fD];exact Lk (cm (y:=p.1) (c:=p.2) hp).2
  .show∃c,gO.cells.lookup y=some c;have key:∀k,gO.kindOf y=some k ->(k=.cell\/k=.free) ->∃c,gO.cells.lookup y=some c:=λ k hk gj=>by
    unfold Env.kindOf at hk;rw[hsc]at hk;obtain⟨k',e,r⟩:=nQ hk;have:k'=.cell\/k'=.free:=by
     rcases r with rfl|⟨rfl,_⟩
     .exact gj
     .exact .inr rfl
    rcases this with rfl|rfl
    .obtain⟨c,hm⟩:=sG (n:=(s.heap.push {cls:=.type "dict",data:=.dict #[]}).objs.size) (acc:=c8 X.aC.cells scope.names []) (iJ e);obtain⟨c',e'⟩:=qh hm;exact⟨c',by rw[zX];exact e'⟩
    .obtain⟨c,h1,_⟩:=Iv e;exact⟨c,h1⟩
   rcases hy with hy|hy
   .exact key _ hy (.inl rfl)
   .exact key _ hy (.inr rfl)
  .have z:(scope.names.lookup y==some S5)=true:=z;have z:scope.names.lookup y=some .cell:=by simpa using z
   have e:gO.cells.lookup y=some c:=e;rw[zX]at e;rcases k_ (iJ e)with hm|⟨_,h2,_⟩
   .rcases j_ hm with hm|⟨h1,_⟩
    .cases hm
    .have q:=ok.IB _ h1;rw[z]at q;cases q
   .rw[fD]at h2;exact Lj h2
  .show b≠gO.locals;rw[hL];exact jj (Eo b hb).2
  .have e:gO.cells.lookup y=some c:=e;rcases mem e with⟨h1,_⟩|⟨h1,_⟩
   .exact(Eo b hb).1.2.2.2.2.1 y c h1 z
   .have h2:s.heap.objs.size+1<=b:=by rw[<-z];exact h1
    exact absurd (iY (Eo b hb).2 (Lj h2)) (vI _)
  .rcases(Eo b hb).1.2.2.2.1 with z|z
   .exact I.ok.Ko b o e z
   .exact absurd (iY (dB e) (fB I.ok.Pk z)) (vI _)
  .rcases eB.mp (I.DZ b z)with z|z
   .exact(Eo b hb).1.2.1 z
   .exact(Eo b hb).1.2.2.1 z
 refine⟨okB,rfl,I.jk,Un.fw kp,⟨λ _=>none,?_,λ i y av e1 e2 e3=>?_⟩,λ y c e=>?_,?_,λ y c e=>?_,λ p hp=>?_,I.db.fw kp,by rw[nS];exact I.len⟩
 .show Heap.Ns _ gO.locals _;rw[hL];exact Heap.Ns.keeps (Heap.Ns.new ..) λ b o e=>Li _ _ _ _ e
 .obtain⟨e2,jD⟩:=sJ e2;have Xh:scope.names.lookup y=some .free/\(gO.kindOf y=some .cell\/gO.kindOf y=some .free):=by
   have key:∀k,gO.scope.names.lookup y=some k ->k=.local\/k=.cell\/k=.free ->scope.names.lookup y=some .free/\(gO.kindOf y=some .cell\/gO.kindOf y=some .free):=λ k hk gj=>by
    have Pq:=hk;rw[hsc]at hk;obtain⟨k',e,r⟩:=nQ hk;have no:¬(k'=.local\/k'=.cell):=λ hh=>by
     rcases ok.own _ (iJ e) hh with e'|e'
     .obtain⟨p,hp,hpy⟩:=cY.mp e';have e3:=ok.ix p hp;have:p.1=y:=hpy;rw[this]at e3;exact jD (cY.mpr ⟨p,hp,vJ hN e3 e1⟩)
     .exact e' (cH e1)
    rcases r with rfl|⟨rfl,rfl⟩
    .rcases gj with rfl|rfl|rfl
     .exact absurd (.inl rfl) no
     .exact absurd (.inr rfl) no
     .exact⟨e,.inr Pq⟩
    .exact⟨e,.inl Pq⟩
   have e3:US gO.scope y:=e3;rcases e3 with e3|e3|e3
   .exact key _ e3 (.inl rfl)
   .exact key _ e3 (.inr (.inl rfl))
   .exact key _ e3 (.inr (.inr rfl))
  obtain⟨m,hn,hl⟩:=I.Bb;have acG:US X.aC.scope y:=(ok.free _ (iJ Xh.1) rfl).elim (λ k=>.inr (.inl k)) (λ k=>.inr (.inr k));obtain⟨w,r,q⟩:=hl i y av e1 e2 acG;refine⟨w,r,.inr ⟨Xh.2,?_⟩⟩;obtain⟨c,h1,h2⟩:=Iv Xh.1;rcases q with⟨k,_⟩|⟨_,c',e',z⟩
  .have k:X.aC.scope.names.lookup y=some .local:=k;rcases ok.free _ (iJ Xh.1) rfl with k'|k'<;>rw[show X.aC.scope.names.lookup y=_ from k']at k<;>cases k
  .rw[h2]at e';cases e';exact⟨c,h1,z.keeps kp⟩
 .have e:gO.cells.lookup y=some c:=e;rcases mem e with⟨h1,_⟩|⟨_,z⟩
  .obtain⟨w,z⟩:=I.cell y c h1;exact⟨w,z.keeps kp⟩
  .exact⟨_,z⟩
 .show H gO.locals=none;rw[hL];exact I.db.fresh (ci _)
 .have e:gO.cells.lookup y=some c:=e;rcases mem e with⟨h1,_⟩|⟨h1,_⟩
  .exact I.kW y c h1
  .exact I.db.fresh (Lj h1)
 .exact absurd (show p∈([]:List (Addr×Obj))++[] from hp) aL
theorem Vt{E:aq ->ap ->Prop}{D:Addr}{xs:List V}{y:V}{v:aq}{Q:aq ->ap ->Prop}(I:aZ X pins σ H s)(hD:H D=some (.aD xs))(hz:xs.length<sizeLine)(r:bT y v)
  (h:∀s',aZ X pins σ (aS H D (.aD (xs++[y]))) s' ->Q .none s'):wpAny (model X.prog X.w) X.A (call (.builtin "list.append") [.ref D,v]) Q E s:=by
 obtain⟨hz',bb,n,ri,e⟩:=I.db D _ hD;have hl:=ri.length;refine append_at (hsz:=by rw[cV];omega) e λ h' sb vk=>?_
 refine h {s with heap:=h'} (I.tQ (t':=s.toks) (by rw[hD];trivial) (.inl rfl) (λ b u hb q=>(sb.2 b hb).trans q) ⟨_,vk⟩ ⟨by rw[dc];exact hz,bb++[v],n+1,ri.append (.cons r .nil),?_⟩);rw[vk];simp
def YL(X:Cx)(ifs:List Expr)(t:TT):Prop:=
 ∀(pins:List (Addr×Obj))(s:ap)(σ:St)(H:Hp)(Q:Bool ->Hp ->Prop),aZ X pins σ H s ->t σ H Q ->
  wpAny (model X.prog X.w) X.A (forIn ifs true λ c r=>if r=true then do let ok<-isTrue c X.aC (eval c X.aC);pure (BN ok)else pure (BN r)) (TP X pins σ Q) X.xe s
def jE:TT:=λ _ H Q=>Q true H
theorem di:YL X [] jE:=λ _ _ _ H _ I h=>wpAny_tests_nil ⟨H,I,h⟩
theorem lL{c:Expr}{t:TT}(h:PT X c t):YL X [c] t:=λ pins s σ H Q I hw=>wpAny_tests_one (h pins s σ H Q I hw)
end
theorem IC{α:Type}{t:Sem α}{Q Q':α ->ap ->Prop}{M:Ih}{A:cw}{E:aq ->ap ->Prop}{s:ap}(h:wpAny M A t Q (λ _ _=>False) s)(hQ:∀a s,Q a s ->Q' a s):wpAny M A t Q' E s:=o_ h hQ λ _ _ z=>jZ z
theorem zY{prog:dz}{w:c9}{A:cw}{R:Bw ->ap ->Prop}{s:ap}{yI target iter:Expr}{ifs:List Expr}{scope:fz}{pos:Pos}{it acc:aq}{aC:Env}(I:Nat ->ap ->Prop)
  (turn:∀n s,I n s ->wpAny (model prog w) A (pyNext it) (λ r s₁=>match r with
   |none=>R (.ok .next) s₁
   |some v=>wpAny (model prog w) A (letOwnedTupleGo target it v) (λ _ s₁'=>wpAny (model prog w) A (assign target aC v) (λ _ s₂=>
     wpAny (model prog w) A (forIn ifs true λ c r=>if r=true then do let ok<-isTrue c aC (eval c aC);pure (BN ok)else pure (BN r)) (λ ok s₃=>
      if ok=true then wpAny (model prog w) A (eval yI aC) (λ x s₄=>
       wpAny (model prog w) A (call (.builtin "list.append") [acc,x]) (λ _ s₅=>∃m,m<n/\I m s₅) (notedBy (model prog w) A aC λ e s'=>R (.error e) s') s₄) (notedBy (model prog w) A aC λ e s'=>R (.error e) s') s₃
      else∃m,m<n/\I m s₃) (notedBy (model prog w) A aC λ e s'=>R (.error e) s') s₂) (notedBy (model prog w) A aC λ e s'=>R (.error e) s') s₁') (notedBy (model prog w) A aC λ e s'=>R (.error e) s') s₁) (notedBy (model prog w) A aC λ e s'=>R (.error e) s') s)
  (n:Nat) (h:I n s):
  codeAny (model prog w) A (.compLoop (.ListComp yI [⟨target,iter,ifs,0⟩] scope pos) 0 it acc aC) R s:=by
 refine codeAny_loop rfl I (λ n s hI=>?_) n h;show wpAny _ A ((compTurn (.ListComp yI [⟨target,iter,ifs,0⟩] scope pos) 0 it acc aC).onRaise (λ x=>do noteFrame x aC;theTreesLotGoes x)) _ _ s;refine wpAny_noted ?_;rw[compTurn_list];refine az (U9 (az (o_ (turn n s hI) (λ r s₁ h₁=>?_) λ _ _ h'=>h')));cases r with
 |none=>exact bY h₁
 |some v=>
  refine az (o_ h₁ (λ _ s₁' h₁'=>?_) λ _ _ h'=>h');refine az (o_ h₁' (λ _ s₂ h₂=>az (o_ h₂ (λ ok s₃ h₃=>?_) λ _ _ h'=>h')) λ _ _ h'=>h');cases ok with
  |false=>exact bY ⟨rfl,h₃⟩
  |true=>
   exact az (az (o_ h₃ (λ x s₄ h₄=>az (o_ h₄ (λ _ s₅ h₅=>bY (bY ⟨rfl,h₅⟩)) λ _ _ h'=>h')) λ _ _ h'=>h'))
section
variable{X:Cx}
def tLc(wi:TI)(g:TG)(tt:TT)(te:TE)(vs:List Nat):TE:=λ σ H Q=>wi σ H λ J H1=>∀D,H1 D=none ->∃W:Nat ->Nat ->Hp ->Prop,(∃m,W 0 m (aS H1 D (.aD [])))/\∀i m H,W i m H ->
 (J.stop i H/\Q (.ref D) H)\/(J.go i H/\∃Nx:Hp ->Prop,(∀H',Nx H' ->∃m',m'<m/\W (i+1) m' H')/\∀x H',J.zJ i H x H' ->g x (gC σ vs) H' λ σ2 H2=>gC σ2 vs=gC σ vs/\tt σ2 H2 λ b H3=>
  if b=true then te σ2 H3 λ y H4=>∃acc,H4 D=some (.aD acc)/\acc.length<sizeLine/\Nx (aS H4 D (.aD (acc++[y])))else Nx H3)
theorem Gs{pins:List (Addr×Obj)}{s:ap}{σ:St}{H:Hp}{Q:VK}{yI tg iter:Expr}{ifs:List Expr}{scope:fz}{own:List (Str×Nat)}{pos uR:Pos}{wi:TI}{g:TG}{tt:TT}{te:TE}{use:Option (aq ->Sem Unit)}{Qf:aq ->ap ->Prop}
  (hc:X.mS=true) (hN:X.N.Nodup) (I:aZ X pins σ H s) (hi:PI X tg iter wi) (ok:BK X.N X.aC.scope scope own)
  (hg:∀(s:ap)(H:Hp)(C:Addr)(cl:List (Str×Addr))(fp:List Addr),PG (X.zW s H scope (compEnvC scope cl C X.aC) fp) tg g) (ht:∀(s:ap)(H:Hp)(C:Addr)(cl:List (Str×Addr))(fp:List Addr),YL (X.zW s H scope (compEnvC scope cl C X.aC) fp) ifs tt)
  (he:∀(s:ap)(H:Hp)(C:Addr)(cl:List (Str×Addr))(fp:List Addr),PE (X.zW s H scope (compEnvC scope cl C X.aC) fp) yI te) (hs:∀x,foldedSetIterable iter X.aC x=pure x)
  (h:tLc wi g tt te (own.map (·.2)) σ H Q)
  (hRR:∀D C s' m H',aZ X pins σ H' s' ->Q (.ref D) H' ->s'.heap.Ns C m ->fA X pins H' C ->compPost (model X.prog X.w) X.A X.xe use Qf (.ref D) C (.ok .next) s'):
  wpAny (model X.prog X.w) X.A (comprehension (.ListComp yI [⟨tg,iter,ifs,0⟩] scope pos) scope X.aC uR (newList []) false (eval iter X.aC) use) Qf X.xe s:=by
 have yw:∀y∈scope.names,y.2=.free ->∃c,X.aC.cells.lookup y.1=some c:=λ y hy e=>by
  rcases ok.free y hy e with k|k
  .exact I.ok.has _ (.inl k)
  .exact I.ok.has _ (.inr k)
 refine wpAny_comprehension_free (use:=use) rfl hs (En yw) ok.kind (λ y hy e=>by rw[ok.IB y hy,e])
  (dQ (hi pins s σ H _ I h) λ xv s1 hx=>dQ hx λ itv s2 h2=>?_)
 obtain⟨it,fp,tn,J,H2,e,I2,T,st2,f2,q⟩:=h2;subst e;refine yJ (BJ ?_) (by show 0<=sizeLine;decide);generalize hD:s2.heap.objs.size=D;have hDn:H2 D=none:=I2.db.fresh (Gc hD);obtain⟨W,⟨m0,w0⟩,turn⟩:=q D hDn;generalize YM:({s2 with heap:=s2.heap.push {cls:=.type "list",data:=.seq ([]:List aq).toArray}}:ap)=s3;have I3:aZ X pins σ (aS H2 D (.aD [])) s3:=by
  rw[<-YM];refine I2.sB (t':=s2.toks) (λ b o e=>cf _ e) (Gc hD) ⟨ia _,[],0,.nil,?_⟩;rw[<-hD];exact fN _ rfl
 have h3:s3.heap=s2.heap.push {cls:=.type "list",data:=.seq ([]:List aq).toArray}:=by rw[<-YM]
 have sz:∀b∈fp,b<s2.heap.objs.size:=λ b hb=>by
  obtain⟨o,e,_⟩:=T.obj _ _ st2 b hb;exact dB e
 have f3:∀b∈fp,fA X pins (aS H2 D (.aD [])) b/\b<s3.heap.objs.size:=λ b hb=>by
  have dC:=sz b hb;refine⟨⟨?_,(f2 b hb).2⟩,by rw[h3,fD];exact Lk dC⟩;rw[ag (by rw[<-hD];exact jj dC)];exact(f2 b hb).1
 have st3:tn 0 s3.heap:=T.keep _ _ _ st2 λ b _ o e=>by rw[h3];exact cf _ e
 have I4:=BL I3 ok hN f3;have pg:=hg s3 (aS H2 D (.aD [])) s3.heap.objs.size (cellsFrom (s3.heap.objs.size+1) scope.names (c8 X.aC.cells scope.names [])) fp;have pt:=ht s3 (aS H2 D (.aD [])) s3.heap.objs.size (cellsFrom (s3.heap.objs.size+1) scope.names (c8 X.aC.cells scope.names [])) fp;have pe:=he s3 (aS H2 D (.aD [])) s3.heap.objs.size (cellsFrom (s3.heap.objs.size+1) scope.names (c8 X.aC.cells scope.names [])) fp;show codeAny _ _ (.compStart (.ListComp yI [⟨tg,iter,ifs,0⟩] scope pos) 0 (.ref it) (.ref D) (compEnvC scope (cellsFrom (s3.heap.objs.size+1) scope.names (c8 X.aC.cells scope.names [])) s3.heap.objs.size X.aC)) (compPost (model X.prog X.w) X.A X.xe use Qf (.ref D) s3.heap.objs.size) {s3 with heap:=pushCells (s3.heap.push {cls:=.type "dict",data:=.dict #[]}) scope.names};have nfp:∀b∈fp,(aS H2 D (.aD [])) b=none:=λ b hb=>(f3 b hb).1.1
 generalize hce:compEnvC scope (cellsFrom (s3.heap.objs.size+1) scope.names (c8 X.aC.cells scope.names [])) s3.heap.objs.size X.aC=ce at I4 pg pt pe⊢;have cL:ce.locals=s3.heap.objs.size:=by subst hce;rfl
 generalize Ke:aS H2 D (.aD [])=H3 at I3 I4 pg pt pe w0 nfp f3;generalize hs4:({s3 with heap:=pushCells (s3.heap.push {cls:=.type "dict",data:=.dict #[]}) scope.names}:ap)=s4 at I4⊢;have st4:tn 0 s4.heap:=T.keep _ _ _ st3 λ b _ o e=>by rw[<-hs4];exact Li _ _ _ _ (cf _ e)
 have Ec:∀{σ':St}{H':Hp}{s':ap},aZ (X.zW s3 H3 scope ce fp) [] σ' H' s' ->(∀b∈fp,H' b=none) ->∀b∈fp,fA (X.zW s3 H3 scope ce fp) [] H' b:=λ{σ' H' s'} I' hn b hb=>
  ⟨hn b hb,(I'.ok.exf b hb).1,I'.ok.Kp b hb,.inl hb,λ x c e=>(I'.ok.exf b hb).2 x c e,λ p hp=>absurd (show p∈([]:List (Addr×Obj))++[] from hp) aL⟩
 have loop:codeAny (model X.prog X.w) X.A (.compLoop (.ListComp yI [⟨tg,iter,ifs,0⟩] scope pos) 0 (.ref it) (.ref D) ce) (compPost (model X.prog X.w) X.A X.xe use Qf (.ref D) s3.heap.objs.size) s4:=by
  refine zY (λ n s'=>∃i H',aZ (X.zW s3 H3 scope ce fp) [] (gC σ (own.map (·.2))) H' s'/\tn i s'.heap/\(∀b∈fp,H' b=none)/\W i n H') ?_ m0 ⟨0,H3,I4,st4,nfp,w0⟩
  rintro n s5 ⟨i,H5,I5,Xf,n5,w5⟩
  rcases turn i n H5 w5 with⟨stop,qq⟩|⟨go,Nx,hNx,step⟩
  .have td:=T.done (X.zW s3 H3 scope ce fp) rfl rfl rfl hc i [] s5 _ H5 (λ _ _=>False) I5 (Ec I5 n5) Xf stop;refine IC td λ r s6 ⟨hr,I6⟩=>?_
   subst hr;have I7:aZ X pins σ H5 s6:=I3.XX (ch:=fp) I6.os I6.base I6.db I6.jk λ b hb=>⟨(f3 b hb).1.2.2.2.1,(f3 b hb).1.2.1,(f3 b hb).1.2.2.2.2.1,(f3 b hb).1.2.2.2.2.2⟩
   have nC:H5 s3.heap.objs.size=none:=by
    have z:H5 ce.locals=none:=I6.free;rw[cL]at z;exact z
   obtain⟨m,hn,_⟩:=I6.Bb;have hn:s6.heap.Ns ce.locals m:=hn;rw[cL]at hn;exact hRR D s3.heap.objs.size s6 m H5 I7 qq hn (I3.qe (ci _) nC)
  .have ti:=T.item (X.zW s3 H3 scope ce fp) rfl rfl rfl hc i [] s5 _ H5 (λ _ _=>False) I5 (Ec I5 n5) Xf go;refine IC ti λ r s6 ⟨u,hr,h6⟩=>?_
   subst hr;refine IC h6 λ _ s7 ⟨x,H7,I7,r7,y7,st7,n7⟩=>?_
   have I7':=I7.KD (Ec I7 n7) (T.obj _ _ st7);refine IC (pg _ s7 _ H7 x u _ I7' r7 (step x H7 y7)) λ _ s8 ⟨σ8,H8,I8,hw8,q8⟩=>?_
   refine IC (pt _ s8 σ8 H8 _ I8 q8) λ b s9 ⟨H9,I9,q9⟩=>?_
   have fin:∀{s':ap}{H':Hp},aZ (X.zW s3 H3 scope ce fp) ([]++vO fp s7.heap) σ8 H' s' ->Nx H' ->∃m,m<n/\∃i H',aZ (X.zW s3 H3 scope ce fp) [] (gC σ (own.map (·.2))) H' s'/\tn i s'.heap/\(∀b∈fp,H' b=none)/\W i m H':=λ{s' H'} I' nx=>by
    obtain⟨m',hm,w'⟩:=hNx H' nx;have YN:∀b∈fp,∀o,s7.heap.get? b=some o ->s'.heap.get? b=some o/\H' b=none:=λ b hb o e=>
     let z:=I'.tR (b,o) (ij _ (ij _ (qf hb e)))
     ⟨z.1,z.2.1⟩
    have hl:(gC σ (own.map (·.2))).length=σ8.length:=by rw[<-hw8,nS]
    refine⟨m',hm,i+1,H',(I'.gT (pins:=[])).abX hl (λ j v e=>?_),T.keep _ _ _ st7 λ b hb o e=>(YN b hb o e).1,λ b hb=>?_,w'⟩
    .rw[<-hw8]at e;exact(sJ e).1
    .obtain⟨o,e,_⟩:=T.obj _ _ st7 b hb;exact(YN b hb o e).2
   cases b with
   |false=>
    simp only[v6,pH]at q9⊢;exact fin I9 q9
   |true=>
    simp only[mo]at q9⊢;refine IC (pe _ s9 σ8 H9 _ I9 q9) λ z s10 ⟨yv,H10,I10,r10,acc,acH,acI,nx⟩=>?_
    exact Vt (X:=X.zW s3 H3 scope ce fp) I10 acH acI r10 λ s11 I11=>fin I11 nx
 exact codeAny_compStart_list loop (T.self X.A 0 _ _ _ st4 loop)
theorem iL{yI tg iter:Expr}{ifs:List Expr}{scope:fz}{own:List (Str×Nat)}{pos:Pos}{wi:TI}{g:TG}{tt:TT}{te:TE}(hc:X.mS=true)(hN:X.N.Nodup)(hi:PI X tg iter wi)(ok:BK X.N X.aC.scope scope own)
  (hg:∀(s:ap)(H:Hp)(C:Addr)(cl:List (Str×Addr))(fp:List Addr),PG (X.zW s H scope (compEnvC scope cl C X.aC) fp) tg g) (ht:∀(s:ap)(H:Hp)(C:Addr)(cl:List (Str×Addr))(fp:List Addr),YL (X.zW s H scope (compEnvC scope cl C X.aC) fp) ifs tt)
  (he:∀(s:ap)(H:Hp)(C:Addr)(cl:List (Str×Addr))(fp:List Addr),PE (X.zW s H scope (compEnvC scope cl C X.aC) fp) yI te) (hs:∀x,foldedSetIterable iter X.aC x=pure x:=by intro _;rfl):
  PE X (.ListComp yI [⟨tg,iter,ifs,0⟩] scope pos) (tLc wi g tt te (own.map (·.2))):=by
 intro pins s σ H Q I h;rw[eval_ListComp];refine Gs hc hN I hi ok hg ht he hs h λ D C s' m H' I' q hn f=>⟨m,hn,λ Kf sb=>?_⟩
 obtain⟨f0,f1,f2,f3,f4,f5⟩:=f;exact⟨.ref D,H',I'.lG (t':=s'.toks) (λ b o hb e=>(sb.2 b hb).trans e) f0 f1 f3 f4 f5,rfl,q⟩
theorem gq{i:Nat}{y:Str}{py:Pos}{yI tg iter:Expr}{ifs:List Expr}{scope:fz}{own:List (Str×Nat)}{pos YO:Pos}{wi:TI}{g:TG}{tt:TT}{te:TE}(hc:X.mS=true)(hN:X.N.Nodup)(hy:X.N[i]?=some y)(Ep:X.aC.scope.names.lookup y=some .local)
  (hsw:swapsWith (.ListComp yI [⟨tg,iter,ifs,0⟩] scope pos) (some (.Name y py)) YO.line X.aC=pure true) (hi:PI X tg iter wi) (ok:BK X.N X.aC.scope scope own)
  (hg:∀(s:ap)(H:Hp)(C:Addr)(cl:List (Str×Addr))(fp:List Addr),PG (X.zW s H scope (compEnvC scope cl C X.aC) fp) tg g) (ht:∀(s:ap)(H:Hp)(C:Addr)(cl:List (Str×Addr))(fp:List Addr),YL (X.zW s H scope (compEnvC scope cl C X.aC) fp) ifs tt)
  (he:∀(s:ap)(H:Hp)(C:Addr)(cl:List (Str×Addr))(fp:List Addr),PE (X.zW s H scope (compEnvC scope cl C X.aC) fp) yI te) (hs:∀x,foldedSetIterable iter X.aC x=pure x:=by intro _;rfl):
  PS X (.Assign [.Name y py] (.ListComp yI [⟨tg,iter,ifs,0⟩] scope pos) YO) (PF (tLc wi g tt te (own.map (·.2))) (nj i)):=by
 intro pins s σ H D I h;rw[exec_Assign_Name_used _ _ _ _ hsw];refine az (U9 (az ?_));show wpAny _ X.A (do let _<-comprehension (.ListComp yI [⟨tg,iter,ifs,0⟩] scope pos) scope X.aC (firstIterPos [⟨tg,iter,ifs,0⟩] pos) (newList []) false (eval iter X.aC) (some (assign (.Name y py) X.aC))) _ _ s;have h:tLc wi g tt te (own.map (·.2)) σ H (λ x H1=>nj i x σ H1 D.nx):=h;refine az (dQ (Gs (Qf:=λ _ s'=>SP X pins D .next s') hc hN I hi ok hg ht he hs h λ L C s' m H' I' q hn f=>?_) λ _ s' hq=>bY (bY hq));show wpAny _ _ (assign (.Name y py) X.aC (.ref L)) _ _ _;refine acb (yu (v:=V.ref L) I' hN hy (.inl Ep) rfl (λ s2 I2 ⟨a,sb,ha⟩=>?_) (.inr Ep));obtain⟨f0,f1,f2,f3,f4,f5⟩:=f;have haC:C≠a:=by
  rcases ha with z|z
  .rw[z];exact f1
  .exact λ e=>f4 y a z e.symm
 refine⟨m,hn.sameBut sb haC,λ h3 sb3=>?_⟩;exact⟨_,H',I2.lG (t':=s2.toks) (λ b o hb e=>(sb3.2 b hb).trans e) f0 f1 f3 f4 f5,q⟩
theorem iA{yI:Expr}{gs:List Comprehension}{scope:fz}{pos py:Pos}{y:Str}{l:Nat}{aC:Env}(hk:aC.scope.kind=.function)(hy:aC.scope.names.lookup y=some .local)(hl:(py.line==pos.line)=true)
  (ha:(scope.names.any λ(n,k)=>n==y&&(k==.local||k==.cell))=false):swapsWith (.ListComp yI gs scope pos) (some (.Name y py)) l aC=pure true:=by
 have ky:aC.kindOf y=some .local:=hy;have hb:aC.blockKind=.function:=by unfold Env.blockKind;rw[hk];rfl
 unfold swapsWith;have ep:(Expr.Name y py).pos=py:=rfl;have eq:(Expr.ListComp yI gs scope pos).pos=pos:=rfl;simp only[hb,ky,ha,ep,eq,hl];rfl
end
theorem qT{K:aE}{a:Addr}{xs:List V}{g:TG}{tt:TT}{te:TE}{vs:List Nat}{σ:St}{H1:Hp}{D:Addr}{Qd:Hp ->Prop}(Pv:Nat ->Hp ->Prop)(h0:Pv 0 (aS H1 D (.aD [])))(hl:∀i H,i<=xs.length ->Pv i H ->aP K H a xs)
  (hs:∀i x H,xs[i]?=some x ->Pv i H ->g x (gC σ vs) H λ σ2 H2=>gC σ2 vs=gC σ vs/\tt σ2 H2 λ b H3=>
   if b=true then te σ2 H3 λ y H4=>∃acc,H4 D=some (.aD acc)/\acc.length<sizeLine/\Pv (i+1) (aS H4 D (.aD (acc++[y])))else Pv (i+1) H3) (hd:∀H,Pv xs.length H ->Qd H):
  ∃W:Nat ->Nat ->Hp ->Prop,(∃m,W 0 m (aS H1 D (.aD [])))/\∀i m H,W i m H ->
   ((PL K a).stop i H/\Qd H)\/((PL K a).go i H/\∃Nx:Hp ->Prop,(∀H',Nx H' ->∃m',m'<m/\W (i+1) m' H')/\∀x H',(PL K a).zJ i H x H' ->g x (gC σ vs) H' λ σ2 H2=>gC σ2 vs=gC σ vs/\tt σ2 H2 λ b H3=>
    if b=true then te σ2 H3 λ y H4=>∃acc,H4 D=some (.aD acc)/\acc.length<sizeLine/\Nx (aS H4 D (.aD (acc++[y])))else Nx H3):=by
 refine⟨λ i m H=>m=xs.length -i/\i<=xs.length/\Pv i H,⟨xs.length,by simp,ia _,h0⟩,?_⟩
 rintro i m H ⟨rfl,hi,p⟩
 have q:=hl i H hi p;by_cases dC:i<xs.length
 .refine .inr ⟨⟨xs,xs[i],q,by simp[dC]⟩,Pv (i+1),λ H' p'=>⟨xs.length -(i+1),ah,rfl,dC,p'⟩,λ x H' y=>?_⟩;obtain⟨e,y⟩:=y;subst e;exact hs i x _ (y xs q) p
 .have e:i=xs.length:=by omega
  subst e;exact .inl ⟨⟨xs,q,ci _⟩,hd H p⟩
def gW(N:List Str)(sc scope:fz)(own:List (Str×Nat)):Bool:=
 (match scope.kind with|.function=>true|_=>false)&&(scope.names.all λ y=>decide (scope.names.lookup y.1=some y.2))&&(own.all λ p=>decide (N[p.2]?=some p.1))&&
  (scope.names.all λ y=>match y.2 with
   |.free=>(match sc.names.lookup y.1 with|some .cell=>true|some .free=>true|_=>false)
   |.local=>decide (y.1∈own.map (·.1))||decide (y.1∉N)
   |.cell=>decide (y.1∈own.map (·.1))||decide (y.1∉N)
   |_=>true)
theorem bP{N:List Str}{sc scope:fz}{own:List (Str×Nat)}(h:gW N sc scope own=true):BK N sc scope own:=by
 unfold gW at h;simp only[bq,fG,bc]at h;obtain⟨⟨⟨h1,h2⟩,h3⟩,h4⟩:=h;refine⟨?_,h2,h3,λ y hy e=>?_,λ y hy e=>?_⟩
 .split at h1
  .assumption
  .cases h1
 .have q:=h4 y hy;simp only[e]at q;split at q<;>first|exact .inl (by assumption)|exact .inr (by assumption)|cases q
 .have q:=h4 y hy;rcases e with e|e<;>(simp only [e,lc,bc]at q;exact q)
end L2
namespace L2
open PySem PySem.Spec PyProof.Rows
section
variable{prog:dz}{w:c9}{A:cw}{R:Bw ->ap ->Prop}{s:ap}{yI t0 i0 t1 i1:Expr}{ad7 ad8:List Expr}{scope:fz}{pos:Pos}{it acc:aq}{aC:Env}
end
section
variable{X:Cx}
end
end L2
namespace L2
open PySem PySem.Spec PyProof.Rows
section
variable{κ:Type}[DecidableEq κ]
end
section
variable{P:dz}{w:c9}{H:Hp}{h:Heap}{a:Addr}
end
section
variable{X:Cx}{pins:List (Addr×Obj)}{σ:St}{H:Hp}{s:ap}{a:Addr}{y v:V}{u r:aq}{o:Option V}{A:cw}{E:aq ->ap ->Prop}
end
section
variable{X:Cx}{pins:List (Addr×Obj)}{σ:St}{H:Hp}{s:ap}{a:Addr}{kU:List (zD×V)}{k:zD}{u:aq}{A:cw}{E:aq ->ap ->Prop}
end
section
variable{X:Cx}{o i e value:Expr}{pos uR pb:Pos}{td ty tv:TE}
end
section
variable{X:Cx}{pos:Pos}
end
section
variable{X:Cx}{pins:List (Addr×Obj)}{σ:St}{H:Hp}{s:ap}{a:Addr}{y d:V}{u r:aq}{o:Option V}{A:cw}{E:aq ->ap ->Prop}
end
section
variable{X:Cx}{o e f:Expr}{k5 zU:Pos}{td ty tx:TE}
end
section
variable{X:Cx}{pins:List (Addr×Obj)}{σ:St}{H:Hp}{s:ap}{a:Addr}{kU:List (zD×V)}{A:cw}{E:aq ->ap ->Prop}
end
section
variable{X:Cx}{pins:List (Addr×Obj)}{σ:St}{H:Hp}{s:ap}{a:Addr}{y:V}{u:aq}{A:cw}{E:aq ->ap ->Prop}
end
end L2
namespace L2
open PySem PySem.Spec PyProof.Rows
section
variable{prog:dz}{w:c9}{A:cw}{E:aq ->ap ->Prop}
end
section
variable{X:Cx}
end
end L2
namespace L2
open PySem PySem.Spec PyProof.Rows
section
variable{X:Cx}{pins:List (Addr×Obj)}{σ:St}{H:Hp}{s:ap}{h':Heap}
theorem aZ.dq{t':Nat}{ch:List Addr}(I:aZ X pins σ H s)(k:∀b o,b∉ch ->s.heap.get? b=some o ->h'.get? b=some o)(hf:∀b∈ch,fA X pins H b):aZ X pins σ H {s with heap:=h',toks:=t'}:=by
 have SK:∀b u,H b=some u ->b∉ch:=λ b u e z=>by
  have q:=(hf b z).1;rw[q]at e;cases e
 refine I.step (g':=s.gens) (d':=s.drawn) (ch:=ch) (λ b hb=>⟨(hf b hb).2.2.2.1,(hf b hb).2.1,(hf b hb).2.2.2.2.1,(hf b hb).2.2.2.2.2⟩) (λ b o _ _ hc e _=>k b o hc e) (λ b o _ _ hc e _=>⟨o.slots,k b o hc e⟩)
  (λ _ _ _ _ n=>n) (λ b o hc e=>⟨o,k b o hc e⟩) (λ _ _ e=>e) (λ _ _ _ e=>e) (λ b ps e=>⟨#[],by rw[e];simp⟩) (λ m hm=>?_) (λ b u e=>?_) I.jk
 .obtain⟨o,es,ep,ho,r⟩:=hm;exact⟨o,es,ep,k _ o (λ z=>(hf _ z).2.1 rfl) ho,r⟩
 .refine(I.db b u e).sA (λ c v hc q=>k c v ?_ q) (λ _ q=>q) λ _ _ q=>q
  rcases hc with z|z
  .rw[z];exact SK b u e
  .exact SK c _ z
theorem aZ.sK{t':Nat}{ch:List Addr}{T:Addr}{ob:HO}(I:aZ X pins σ H s)(k:∀b o,b∉ch ->s.heap.get? b=some o ->h'.get? b=some o)(hf:∀b∈ch,fA X pins H b)(hT:s.heap.objs.size<=T)
  (new:gm X.prog X.w (aS H T ob) h' T ob):aZ X pins σ (aS H T ob) {s with heap:=h',toks:=t'}:=by
 have hn:H T=none:=I.db.fresh hT;have SK:∀b u,H b=some u ->b∉ch:=λ b u e z=>by
  have q:=(hf b z).1;rw[q]at e;cases e
 refine I.step (g':=s.gens) (d':=s.drawn) (ch:=ch) (λ b hb=>⟨(hf b hb).2.2.2.1,(hf b hb).2.1,(hf b hb).2.2.2.2.1,(hf b hb).2.2.2.2.2⟩) (λ b o _ _ hc e _=>k b o hc e) (λ b o _ _ hc e _=>⟨o.slots,k b o hc e⟩)
  (λ b o _ e n=>?_) (λ b o hc e=>⟨o,k b o hc e⟩) (λ b xs e=>?_) (λ b o u e=>?_) (λ b ps e=>⟨#[],?_⟩) (λ m hm=>?_) (λ b u e=>?_) I.jk
 .rw[ag (jj (iY (dB e) hT))];exact n
 .rw[ag (aM e hn)];exact e
 .rw[ag (aM e hn)];exact e
 .rw[ag (aM e hn),e];simp
 .obtain⟨o,es,ep,ho,r⟩:=hm;exact⟨o,es,ep,k _ o (λ z=>(hf _ z).2.1 rfl) ho,r⟩
 .by_cases hb:b=T
  .subst hb;rw[aa]at e;cases e;exact new
  .rw[ag hb]at e;refine(I.db b u e).sA (λ c v hc q=>k c v ?_ q) (λ c q=>by rw[ag (aM q hn)];exact q) λ c xs q=>by rw[ag (aM q hn)];exact q
   rcases hc with z|z
   .rw[z];exact SK b u e
   .exact SK c _ z
end
section
variable{X:Cx}
theorem Vu{tg:Expr}{pins:List (Addr×Obj)}{σ:St}{H:Hp}{s:ap}{R:It ->Hp ->Prop}{J:It}{tn:Nat ->Heap ->Prop}{tk:Nat}(I:aZ X pins σ H s)(o:Obj)
  (T:Br X.prog X.w X.K tg J [s.heap.objs.size] s.heap.objs.size tn) (st:tn 0 (s.heap.push o)) (q:R J H):PIE X pins σ tg R (.ref s.heap.objs.size) {s with heap:=s.heap.push o,toks:=tk}:=by
 refine⟨s.heap.objs.size,[s.heap.objs.size],tn,J,H,rfl,I.fw λ b ob e=>cf _ e,T,st,λ b hb=>?_,q⟩;have e:b=s.heap.objs.size:=by simpa using hb
 subst e;exact I.qe (ci _) (I.db.fresh (ci _))
end
def Xi(lo c:Int)(n:Nat):It:=⟨λ i _=>i<n,λ i H x H'=>H'=H/\x=.int (lo+(i:Nat)*c),λ i _=>n<=i⟩
theorem BO{P:dz}{w:c9}{K:aE}{tg:Expr}(it:Addr)(lo c:Int)(n:Nat):Br P w K tg (Xi lo c n) [it] it (λ i h=>Vc h it (lo+(i:Nat)*c) ((n:Int) -(i:Nat)) c)where
 mem:=by simp
 obj:=λ i h st b hb=>by
  have e:b=it:=by simpa using hb
  subst e;exact⟨_,st,λ v z=>nomatch z⟩
 keep:=λ i h h' st k=>k it aL _ st
 item:=by
  intro X hP hw hK hc i pins s σ H E I hf st hg;subst hP hw hK;obtain⟨f0,f1,f2,f3,f4,f5⟩:=hf it aL;have W:=ach (prog:=X.prog) (w:=X.w) (I.ok.hd hc) it lo c n;refine W.item i s _ _ hg st λ v h' tk hv Ea kk=>?_
  obtain⟨t,rfl⟩:=hv;have I1:aZ X pins σ H {s with heap:=h',toks:=tk}:=I.lG (λ b o hb e=>kk b o (by simpa using hb) e) f0 f1 f3 f4 f5;exact⟨_,rfl,KA (s:={s with heap:=h',toks:=tk}) (n:="range_iterator") Ea rfl rfl zq_dc ⟨.int (lo+(i:Nat)*c),H,I1,⟨t,rfl⟩,⟨rfl,rfl⟩,Ea,λ b hb=>(hf b hb).1⟩⟩
 done:=by
  intro X hP hw hK hc i pins s σ H E I hf st hg;subst hP hw hK;obtain⟨f0,f1,f2,f3,f4,f5⟩:=hf it aL;exact aci (I.ok.hd hc) st (by have:n<=i:=hg;omega) λ h' eb=>⟨rfl,I.lG (t':=s.toks) (λ b o hb e=>eb b o hb e) f0 f1 f3 f4 f5⟩
 self:=λ A i s Q E st h=>acj st h
def YQ(i j c:Int)(n:Nat):Prop:=c≠0/\c.natAbs<1073741824/\YR i j c=true/\PP i j c=n
def YS(ta:TA):TI:=λ σ H R=>ta σ H λ vs H1=>∃(i j c:Int)(n:Nat),vs=[.int i,.int j,.int c]/\YQ i j c n/\R (Xi i c n) H1
section
variable{X:Cx}{tg:Expr}
theorem yK{a b c:Expr}{ta:TA}{p pos:Pos}(hg:Gl X "range")(hm:X.mg "range"=none)(ha:PA X [a,b,c] ta)
  (hs:starEach [a,b,c] X.aC=(false,eval a X.aC)::starEach [b,c] X.aC:=by rfl) (pc:(backTo pos (starEach [b,c] X.aC)).any (·.1)=false:=by rfl):
  PI X tg (.Call (.Name "range" p) [a,b,c] [] pos) (YS ta):=by
 intro pins s σ H R I h;refine Call_ (jC I hg hm X_ (PQ (dQ (ha pos pins s σ H _ I h) λ us s1 ⟨vs,H1,I1,r1,q1⟩=>?_) hs pc));obtain⟨i,j,k,n,e,⟨c0,c1,c2,c3⟩,q⟩:=q1;subst e;cases r1 with
 |cons r rr=>
  cases rr with
  |cons r' rr=>
   cases rr with
   |cons r'' rr=>
    cases rr;obtain⟨t,rfl⟩:=r;obtain⟨t',rfl⟩:=r';obtain⟨t'',rfl⟩:=r'';refine call_range_3 c0 ?_ (.inl (acq c1));refine ack (acl ..) c2 ?_;have I2:aZ X pins σ H1 {s1 with heap:=s1.heap.push {cls:=.type "range",data:=.fields #[.int i t,.int j t',.int k t'']}}:=I1.fw (t':=s1.toks) λ b o e=>cf _ e
    refine Vu (tk:=s1.toks) I2 _ (BO _ i k n) ?_ q;have e1:i+((0:Nat):Int)*k=i:=by simp
    have e2:(n:Int) -((0:Nat):Int)=PP i j k:=by rw[c3];simp
    show Vc _ _ (i+((0:Nat):Int)*k) ((n:Int) -((0:Nat):Int)) k;rw[e1,e2];exact fN _ rfl
end
theorem Er{lo c:Int}{n:Nat}{g:TG}{tb:TS}{D:vL}{σ:St}{H:Hp}(Pv:Nat ->St ->Hp ->Prop)(h0:Pv 0 σ H)
  (hs:∀i σ H,i<n ->Pv i σ H ->g (.int (lo+(i:Nat)*c)) σ H λ σ2 H2=>tb {D with nx:=Pv (i+1),ct:=Pv (i+1),bk:=D.nx} σ2 H2) (hd:∀σ H,Pv n σ H ->D.nx σ H):
  ∃W:Nat ->Nat ->St ->Hp ->Prop,(∃m,W 0 m σ H)/\∀i m σ H,W i m σ H ->
   ((Xi lo c n).stop i H/\D.nx σ H)\/((Xi lo c n).go i H/\∃N:St ->Hp ->Prop,(∀σ' H',N σ' H' ->∃m',m'<m/\W (i+1) m' σ' H')/\∀x H',(Xi lo c n).zJ i H x H' ->g x σ H' λ σ2 H2=>tb {D with nx:=N,ct:=N,bk:=D.nx} σ2 H2):=by
 refine⟨λ i m σ H=>m=n -i/\i<=n/\Pv i σ H,⟨n,by simp,ia _,h0⟩,?_⟩
 rintro i m σ H ⟨rfl,hi,p⟩
 by_cases dC:i<n
 .refine .inr ⟨dC,Pv (i+1),λ σ' H' p'=>⟨n -(i+1),ah,rfl,dC,p'⟩,λ x H' y=>?_⟩;obtain⟨e,y⟩:=y;subst e y;exact hs i σ _ dC p
 .have e:i=n:=by omega
  subst e;exact .inl ⟨ci _,hd σ H p⟩
section
variable{X:Cx}{tg:Expr}
end
section
variable{prog:dz}{w:c9}{A:cw}{E:aq ->ap ->Prop}{s:ap}
end
section
variable{X:Cx}{pins:List (Addr×Obj)}{σ:St}{H:Hp}{s:ap}{d:Addr}{o:Obj}
end
section
variable{P:dz}{w:c9}{K:aE}{tg:Expr}{d:Addr}{o:Obj}{es:Array DictEntry}{ep:Nat}
end
section
variable{X:Cx}{tg e:Expr}{td:TE}{k5 zU:Pos}
end
def Xj(K:aE)(a:Addr):It:=
 ⟨λ i H=>∃(xs:List V)(x:V),aP K H a xs/\xs[i]?=some x,λ i H v H'=>∃T x,v=.ref T/\H T=none/\H'=aS H T (.fc [.int (i:Nat),x])/\∀xs,aP K H a xs ->xs[i]?=some x,λ i H=>∃xs:List V,aP K H a xs/\xs.length<=i⟩
theorem ID{P:dz}{w:c9}{K:aE}{sM:List Expr}{kk:Nat}{pb:Pos}(a e it:Addr):
  Br P w K (.Tuple sM kk pb) (Xj K a) [e,it] e (λ i h=>(∃old,IsEnum h e it ((i:Nat):Int) old)/\h.IsListIter it a i/\e≠it)where
 mem:=by simp
 obj:=λ i h st b hb=>by
  obtain⟨⟨old,he⟩,⟨o,ho,hc,hd⟩,_⟩:=st;have e':b=e\/b=it:=by simpa using hb
  rcases e' with z|z
  .rw[z];exact⟨_,he,λ v q=>nomatch q⟩
  .rw[z];exact⟨o,ho,λ v q=>by rw[hd]at q;cases q⟩
 keep:=λ i h h' st k=>let⟨⟨old,he⟩,hi,jD⟩:=st;⟨⟨old,k e aL _ he⟩,hi.at λ o q=>k it aL o q,jD⟩
 item:=by
  intro X hP hw hK hc i pins s σ H E I hf st hg;subst hP hw hK;obtain⟨⟨old,he⟩,eG,jD⟩:=st;obtain⟨xs,x,hq,hx⟩:=hg;obtain⟨bb,rv,p,hz⟩:=I.list hq;obtain⟨u,hu,ru⟩:=rv.get hx;have YT:e<s.heap.objs.size:=dB he;have jF:it<s.heap.objs.size:=by obtain⟨_,q,_⟩:=eG;exact dB q
  refine wpAny_pyNext_enum_item he eG p.isList (x:=u) (by simpa using hu) jD λ h' ho acJ hT hsz hk=>?_
  refine⟨_,rfl,wpAny_letOwnedTupleGo_enum (s:={s with heap:=h',toks:=s.toks+1}) ho λ Kf he' sb=>?_⟩;have YU:Kf.get? s.heap.objs.size=some {cls:=.type "tuple",data:=.seq #[.int i s.toks,u]}:=(sb.2 _ (zK YT)).trans hT;have new:gm X.prog X.w (aS H s.heap.objs.size (.fc [.int (i:Nat),x])) Kf s.heap.objs.size (.fc [.int (i:Nat),x]):=
   ⟨by show 2<=sizeLine;decide,[.int i s.toks,u],.cons ⟨_,rfl⟩ (.cons ru .nil),⟨_,YU,rfl,_,rfl⟩⟩
  have I1:aZ X pins σ (aS H s.heap.objs.size (.fc [.int (i:Nat),x])) {s with heap:=Kf,toks:=s.toks+1}:=
   I.sK (ch:=[e,it]) (λ b ob hb q=>(sb.2 b (λ z=>hb (by simp[z]))).trans (hk b ob (λ z=>hb (by simp[z])) (λ z=>hb (by simp[z])) q)) hf (ci _) new
  refine⟨.ref s.heap.objs.size,_,I1,rfl,⟨_,x,rfl,I.db.fresh (ci _),rfl,λ ys hy=>by rw[I.nc hy hq];exact hx⟩,⟨⟨u,?_⟩,acJ.at λ o q=>(sb.2 it (qb jD)).trans q,jD⟩,λ b hb=>?_⟩
  .have e1:((i+1:Nat):Int)=(i:Int)+1:=by omega
   rw[e1];exact he'
  .have j7:b<s.heap.objs.size:=by
    have e':b=e\/b=it:=by simpa using hb
    rcases e' with z|z
    .rw[z];exact YT
    .rw[z];exact jF
   rw[ag (jj j7)];exact(hf b hb).1
 done:=by
  intro X hP hw hK hc i pins s σ H E I hf st hg;subst hP hw hK;obtain⟨⟨old,he⟩,eG,jD⟩:=st;obtain⟨xs,hq,hx⟩:=hg;obtain⟨bb,rv,p,hz⟩:=I.list hq;obtain⟨f0,f1,f2,f3,f4,f5⟩:=hf it aL;have hl:=rv.length;exact wpAny_pyNext_enum_end (I.ok.hd hc) he eG p.isList i6 λ h' eb=>⟨rfl,I.lG (t':=s.toks) (λ b o hb q=>eb b o hb q) f0 f1 f3 f4 f5⟩
 self:=λ A i s Q E st h=>let⟨⟨_,he⟩,_⟩:=st;YV he h
def YW(K:aE)(ta:TA):TI:=λ σ H R=>ta σ H λ vs H1=>∃a xs,vs=[.ref a]/\aP K H1 a xs/\R (Xj K a) H1
theorem zZ{X:Cx}{e:Expr}{ta:TA}{p pos pb:Pos}{sM:List Expr}{kk:Nat}(hg:Gl X "enumerate")(hm:X.mg "enumerate"=none)(ha:PA X [e] ta)(hs:starEach [e] X.aC=[(false,eval e X.aC)]:=by rfl):
  PI X (.Tuple sM kk pb) (.Call (.Name "enumerate" p) [e] [] pos) (YW X.K ta):=by
 intro pins s σ H R I h;refine Call_ (jC I hg hm boot_enumerate (PQ (dQ (ha pos pins s σ H _ I h) λ us s1 ⟨vs,H1,I1,r1,q1⟩=>?_) hs rfl));obtain⟨a,xs,ex,hq,q⟩:=q1;subst ex;cases r1 with
 |cons r rr=>
  cases rr;cases r;obtain⟨bb,rv,p',hz⟩:=I1.list hq;refine call_enumerate_list p'.isList λ h' he eG hsz hk=>YV he ?_
  have I2:aZ X pins σ H1 {s1 with heap:=h'}:=I1.fw (t':=s1.toks) hk;refine⟨s1.heap.objs.size+1,[s1.heap.objs.size+1,s1.heap.objs.size],_,_,H1,rfl,I2,ID a (s1.heap.objs.size+1) s1.heap.objs.size,⟨⟨.none,he⟩,eG,S6 _⟩,λ b hb=>?_,q⟩;have e':b=s1.heap.objs.size+1\/b=s1.heap.objs.size:=by simpa using hb
  have yL:s1.heap.objs.size<=b:=by
   rcases e' with z|z
   .rw[z];exact pK _ _
   .rw[z];exact ci _
  exact I1.qe yL (I1.db.fresh yL)
theorem yM:bootBuiltins "zip"=some (.type "zip"):=zq_dk
end L2
section
namespace Bits
open PySem PyProof.Rows
end Bits
end
section
namespace TL
open PySem PySem.Builtin PySem.Builtin.Str PySem.StrLaws
end TL
end
namespace L2
open PySem PySem.Spec PyProof.Rows
section
variable{X:Cx}{pins:List (Addr×Obj)}{σ:St}{H:Hp}{s:ap}{Q:VK}
end
section
variable{X:Cx}
end
section
variable{X:Cx}{o e:Expr}{to te:TE}
end
end L2
namespace L2
open PySem PySem.Spec PyProof.Rows
section
variable{X:Cx}
end
end L2
namespace Att
open PySem PySem.W PySem.Calls PyProof.Rows
section
variable{prog:dz}{w:c9}{A:cw}{E:aq ->ap ->Prop}{s:ap}{K:Frag}
end
end Att
namespace L2
open PySem PySem.Spec PyProof.Rows
end L2
namespace L2
open PySem PySem.Spec PyProof.Rows
end L2
namespace L2
open PySem PySem.Spec PyProof.Rows
def iB(s:Stmt)(j:Nat):Stmt:=match s with
 |.ClassDef _ _ _ body _ _ _ _ _ _ _=>body.getD j (.Pass ⟨0,0,0,0⟩)
 |_=>.Pass ⟨0,0,0,0⟩
def jm(s:Stmt):nB:=match s with
 |.FunctionDef _ a _ _ _ _ _ _ _ _=>a
 |_=>{posonlyargs:=[],args:=[],vararg:=none,kwonlyargs:=[],kw_defaults:=[],kwarg:=none,defaults:=[]}
def gX(s:Stmt):List Stmt:=match s with
 |.FunctionDef _ _ b _ _ _ _ _ _ _=>b
 |_=>[]
def aJ(s:Stmt):fz:=match s with
 |.FunctionDef _ _ _ _ _ _ sc _ _ _=>sc
 |_=>{kind:=.function,names:=[],isGenerator:=false,isCoroutine:=false}
abbrev CX0:Kd:=λ _ _ _ _ _ _=>False
abbrev E0:XK:=λ _ _ _=>False
theorem yN{X:Cx}:ny CX0 X E0:=λ _ _ _ _ _ _ _ h=>h.elim
structure v7(K:aE)(x qual:Str)(st:Stmt)(f:Addr)(fd:bp):Prop where
 ex:∃(oc:aq)(od:Option Addr)(kV doc pm:aq)(an:Option Addr)(b_ ct:aq)(yC:Array (Option aq)),
  fd=pG x qual (jm st) (gX st) (aJ st) .none kV doc pm an b_ ct/\K.lookup f=some ⟨oc,od,.func fd,yC⟩/\yD K b_ qual=true
 kp:mh K (.ref f)=true
section
variable{P:dz}{w:c9}{K:aE}{mg:Str ->Option aq}{base:Heap}
abbrev bi(K:aE)(x:Str)(st:Stmt)(f:Addr)(fd:bp):Prop:=v7 K x x st f fd
theorem YX{sp:Sp}{ps:List Str}(h:∀vs H Q E,sp vs H Q E ->vs.length=ps.length:=by intro vs H Q E h;(repeat obtain ⟨_,h⟩:=h);subst_vars;rfl):∀vs H Q E,sp vs H Q E ->vs.length=ps.length:=h
theorem v7.ok{x qual:Str}{st:Stmt}{f:Addr}{fd:bp}{ps:List Str}{k:Nat}{sp:Sp}(F:v7 K x qual st f fd)(N:List Str)
  (k8:∀(b_:aq)(A:cw)(aA:List Env)(s:ap)(H:Hp)(vs:List V)(Q:VK)(E:XK),dR k (A.deeper (envOfC qual (aJ st) s.heap.objs.size f b_)) ->sp vs H Q E ->N.Nodup ->
   ∃t,F5 (bx CX0 P w K mg base N qual (aJ st) f b_ A aA s H E).dJ (gX st) t/\t {nx:=λ _ H'=>Q .bu H',rt:=Q} (start N vs) H) (kind:(aJ st).kind=.function:=by rfl) (co:(aJ st).isCoroutine=false:=by rfl) (gen:(aJ st).isGenerator=false:=by rfl) (nd:N.Nodup:=by decide+kernel) (pre:N.take ps.length=ps:=by rfl) (K0:∀x∈ps,(aJ st).names.lookup x=some .local\/(aJ st).names.lookup x=some .cell:=by decide+kernel) (vT:∀y∈(aJ st).names,y.2≠.free:=by decide+kernel) (len:∀vs H Q E,sp vs H Q E ->vs.length=ps.length:=by exact YX):bj P w K mg base CX0 (k+1) f fd ps sp:=by
 obtain⟨oc,od,kV,doc,pm,an,b_,ct,yC,rfl,lk,D8⟩:=F.ex;refine SY lk D8 ⟨kind,co,gen,nd,pre,K0,vT⟩ len λ A aA s H vs Q E hr Pn=>?_
 obtain⟨t,h,q⟩:=k8 b_ A aA s H vs Q E hr Pn nd;exact⟨t,h.dJ,q⟩
theorem v7.qK{x qual:Str}{st:Stmt}{f:Addr}{fd:bp}{ps:List Str}(F:v7 K x qual st f fd)
  (h:∀(kV doc pm:aq)(an:Option Addr)(b_ ct:aq)(us:List aq),us.length=ps.length ->bindArgs (pG x qual (jm st) (gX st) (aJ st) .none kV doc pm an b_ ct) ⟨us,[]⟩=pure (ps.zip us)):j6 K fd ps []:=by
 obtain⟨oc,od,kV,doc,pm,an,b_,ct,yC,rfl,lk,D8⟩:=F.ex;exact .all (h kV doc pm an b_ ct)
theorem Ll{x qual:Str}{st:Stmt}{f:Addr}{oc:aq}{od an:Option Addr}{yC:Array (Option aq)}{kV doc pm b_ ct:aq}(l:K.lookup f=some ⟨oc,od,.func (pG x qual (jm st) (gX st) (aJ st) .none kV doc pm an b_ ct),yC⟩)
  (c:yD K b_ qual=true) (k:mh K (.ref f)=true):v7 K x qual st f (pG x qual (jm st) (gX st) (aJ st) .none kV doc pm an b_ ct):=⟨⟨oc,od,kV,doc,pm,an,b_,ct,yC,rfl,l,c⟩,k⟩
section
variable{X:Cx}
theorem pv(i:Nat){x:Str}{pos:Pos}(hN:X.N[i]?=some x:=by rfl)(hv:US X.aC.scope x:=by first|exact aH rfl|exact Gu (aH rfl)|exact Gu (Gu rfl))(hd:(x==("__debug__":Str))=false:=by decide)
  (D8:(x==("__classdict__":Str))=false:=by decide):PE X (.Name x pos) (bQ i):=UX hN hv hd D8
end
theorem aO{X:Cx}{e:Expr}{te:TE}(ha:PE X e te)(hs:starEach [e] X.aC=(false,eval e X.aC)::starEach [] X.aC:=by rfl):PA X [e] (cB te ik):=dE ha il hs
theorem bA{X:Cx}{e e':Expr}{te YY:TE}(ha:PE X e te)(hb:PE X e' YY)(hs:starEach [e,e'] X.aC=(false,eval e X.aC)::starEach [e'] X.aC:=by rfl)(YZ:starEach [e'] X.aC=(false,eval e' X.aC)::starEach [] X.aC:=by rfl):PA X [e,e'] (cB te (cB YY ik)):=dE ha (aO hb YZ) hs
theorem jG{X:Cx}{e e' e2:Expr}{te YY t2:TE}(ha:PE X e te)(hb:PE X e' YY)(hc:PE X e2 t2)(hs:starEach [e,e',e2] X.aC=(false,eval e X.aC)::starEach [e',e2] X.aC:=by rfl)(YZ:starEach [e',e2] X.aC=(false,eval e' X.aC)::starEach [e2] X.aC:=by rfl)(h2:starEach [e2] X.aC=(false,eval e2 X.aC)::starEach [] X.aC:=by rfl):PA X [e,e',e2] (cB te (cB YY (cB t2 ik))):=dE ha (bA hb hc YZ h2) hs
theorem acK{A B:Prop}(h:B):if false=true then A else B:=by
 rw[ao iH];exact h
theorem acL{A B:Prop}(h:A):if true=true then A else B:=by
 rw[au rfl];exact h
theorem gP{c A B:Prop}[Decidable c](h1:c ->A)(h2:¬c ->B):if c then A else B:=by
 by_cases h:c
 .rw[au h];exact h1 h
 .rw[ao h];exact h2 h
def Vv(H H':Hp):Prop:=∀b o,H b=some o ->H' b=some o
theorem Vv.seq{K:aE}{H H':Hp}{a:Addr}{xs:List V}(e:Vv H H')(h:aP K H a xs):aP K H' a xs:=by
 rcases h with(h|⟨o,h⟩)|h
 .exact .inl (.inl (e _ _ h))
 .exact .inl (.inr ⟨o,e _ _ h⟩)
 .exact .inr h
section
variable{κ:Type}[DecidableEq κ]
end
theorem Gv{α:Type}{l:List α}(hN:l.Nodup){i j:Nat}{x:α}(a:l[i]?=some x)(b:l[j]?=some x):i=j:=by
 obtain⟨h1,e1⟩:=gM.mp a;obtain⟨h2,e2⟩:=gM.mp b;exact(abY hN).mp (e1.trans e2.symm)
end
end L2
section
namespace L2
open PySem PySem.Spec PyProof.Rows
open PySem.W (WData Codec OpenSpec Well WellAll ReadsW ReadsAllW)
mutual
inductive Dw (K:aE) (H:Hp):V ->WData ->Prop
 |bu:Dw K H .bu .none
 |bl (b:Bool):Dw K H (.bl b) (.bool b)
 |int (i:Int):Dw K H (.int i) (.int i)
 |str (x:Str):Dw K H (.str x) (.str x)
 |zE (b:Array UInt8):Dw K H (.zE b) (.bytes b.toList)
 |aD {a:Addr} {xs:List V} {ds:List WData}:aP K H a xs ->jH K H xs ds ->Dw K H (.ref a) (.list ds)
 |fc {a:Addr} {xs:List V} {ds:List WData}:e9 K H a xs ->jH K H xs ds ->Dw K H (.ref a) (.tuple ds)
inductive jH (K:aE) (H:Hp):List V ->List WData ->Prop
 |nil:jH K H [] []
 |cons {v:V} {vs:List V} {d:WData} {ds:List WData}:Dw K H v d ->jH K H vs ds ->jH K H (v::vs) (d::ds)
end
theorem Gw{K:aE}{H:Hp}:∀ns:List Int,jH K H (ns.map V.int) (ns.map WData.int)
 |[]=>.nil
 |n::r=>.cons (.int n) (Gw r)
theorem Gx{K:aE}{H:Hp}:∀(ns:List Int)(xs:List V),jH K H xs (ns.map WData.int) ->xs=ns.map V.int
 |[],xs,h=>by
  cases h;rfl
 |n::r,xs,h=>by
  cases h with
  |cons h1 h2=>
   cases h1;rw[Gx r _ h2]<;>rfl
section
variable{P:dz}{w:c9}{K:aE}{H:Hp}{h:Heap}{R:Y0}{cl:Str ->Option Addr}
theorem Vw{a:Addr}{xs:List V}(db:qa P w H h)(KX:K.In h)(q:aP K H a xs):∃(bb:List aq)(o:Obj)(n:Nat),bv xs bb/\h.get? a=some o/\o.cls=.type "list"/\o.data=.seq bb.toArray n:=by
 rcases q with q|⟨o,bb,n,e,hc,_,hd,_,hv⟩
 .obtain⟨_,bb,n,hv,e⟩:=(show gm P w H h a (.aD xs) from q.ok db);exact⟨bb,_,n,hv,e,rfl,rfl⟩
 .exact⟨bb.toList,o,n,hv,KX _ _ e,hc,by simp[hd]⟩
theorem Vx{a:Addr}{xs:List V}(db:qa P w H h)(KX:K.In h)(q:e9 K H a xs):∃(bb:List aq)(o:Obj)(n:Nat),bv xs bb/\h.get? a=some o/\o.cls=.type "tuple"/\o.data=.seq bb.toArray n:=by
 rcases q with q|⟨o,bb,n,e,hc,hd,_,hv⟩
 .obtain⟨_,bb,hv,o,e,hc,n,hd⟩:=(show gm P w H h a (.fc xs) from q.ok db);exact⟨bb,o,n,hv,e,hc,hd⟩
 .exact⟨bb.toList,o,n,hv,KX _ _ e,hc,by simp[hd]⟩
mutual
theorem Dw.S7(db:qa P w H h)(KX:K.In h):∀(d:WData)(v:V)(u:aq),Dw K H v d ->bT v u ->∃as,ReadsW R cl h u d as
 |.none,_,_,x,r=>by
  cases x;cases r;exact⟨_,ReadsW.none⟩
 |.bool b,_,_,x,r=>by
  cases x;cases r;exact⟨_,ReadsW.bool b⟩
 |.int i,_,_,x,r=>by
  cases x;obtain⟨t,rfl⟩:=r;exact⟨_,ReadsW.int i t⟩
 |.str s,_,_,x,r=>by
  cases x;obtain⟨t,rfl⟩:=r;exact⟨_,ReadsW.str s t⟩
 |.bytes b,_,_,x,r=>by
  cases x;obtain⟨t,rfl⟩:=r;exact⟨_,ReadsW.bytes _ t⟩
 |.list ds,_,_,x,r=>by
  cases x with
  |aD hs ha=>
   cases r;obtain⟨bb,o,n,rv,ho,hc,hd⟩:=Vw db KX hs;obtain⟨as,hr⟩:=Dw.v8 db KX ds _ bb ha rv;exact⟨_,ReadsW.list ho hc hd hr⟩
 |.tuple ds,_,_,x,r=>by
  cases x with
  |fc hs ha=>
   cases r;obtain⟨bb,o,n,rv,ho,hc,hd⟩:=Vx db KX hs;obtain⟨as,hr⟩:=Dw.v8 db KX ds _ bb ha rv;exact⟨_,ReadsW.tuple ho hc hd hr⟩
 |.float _,_,_,x,_=>by cases x
 |.dict _,_,_,x,_=>by cases x
 |.bytearray _,_,_,x,_=>by cases x
 |.set _,_,_,x,_=>by cases x
 |.frozenset _,_,_,x,_=>by cases x
 |.obj _ _,_,_,x,_=>by cases x
theorem Dw.v8(db:qa P w H h)(KX:K.In h):∀(ds:List WData)(vs:List V)(us:List aq),jH K H vs ds ->bv vs us ->∃as,ReadsAllW R cl h us ds as
 |[],_,_,x,r=>by
  cases x;cases r;exact⟨_,ReadsAllW.nil⟩
 |d::ds,_,_,x,r=>by
  cases x with
  |cons h1 h2=>
   cases r with
   |cons r1 r2=>
    obtain⟨as,q1⟩:=Dw.S7 db KX d _ _ h1 r1;obtain⟨bs,q2⟩:=Dw.v8 db KX ds _ _ h2 r2;exact⟨_,ReadsAllW.cons q1 q2⟩
end
end
mutual
def Gy:WData ->Bool
 |.none=>true
 |.bool _=>true
 |.int _=>true
 |.str _=>true
 |.bytes _=>true
 |.list xs=>uU xs
 |.tuple xs=>uU xs
 |_=>false
def uU:List WData ->Bool
 |[]=>true
 |x::r=>Gy x&&uU r
end
theorem BP{α:Type}{f:α ->WData}(h:∀a,Gy (f a)=true):∀l:List α,uU (l.map f)=true
 |[]=>rfl
 |x::r=>by
  show(Gy (f x)&&uU (r.map f))=true;rw[h x,BP h r]<;>rfl
theorem nU:∀(c:Codec)(a:c.denote),Gy (c.enc a)=true
 |.unit,_=>rfl
 |.bool,_=>rfl
 |.int _ _,_=>rfl
 |.nat _ _,_=>rfl
 |.u8,_=>rfl
 |.bytes _ _,_=>rfl
 |.text _ _ _ _,_=>rfl
 |.list _ _ c,a=>BP (λ x=>nU c x) a
 |.pair c d,a=>by
  show(Gy (c.enc a.1)&&(Gy (d.enc a.2)&&true))=true;rw[nU c a.1,nU d a.2]<;>rfl
 |.triple c d e,a=>by
  show(Gy (c.enc a.1)&&(Gy (d.enc a.2.1)&&(Gy (e.enc a.2.2)&&true)))=true;rw[nU c a.1,nU d a.2.1,nU e a.2.2]<;>rfl
 |.option c,none=>rfl
 |.option c,some x=>nU c x
theorem yO:∀(cs:List Codec)(a:Codec.denoteAll cs),uU (Codec.encAll cs a)=true
 |[],_=>rfl
 |c::cs,a=>by
  show(Gy (c.enc a.1)&&uU (Codec.encAll cs a.2))=true;rw[nU c a.1,yO cs a.2]<;>rfl
theorem qi:∀{xs:List WData}{d:WData},d∈xs ->d.weight<=WData.weightAll xs
 |[],d,h=>absurd h aL
 |x::r,d,h=>by
  show d.weight<=x.weight+1+WData.weightAll r;rcases eB.mp h with e|m
  .rw[e];omega
  .have z:=qi m;omega
def Bd:aq ->V
 |.none=>.bu
 |.bool b=>.bl b
 |.int i _=>.int i
 |.str x _=>.str x
 |.bytes b _=>.zE b
 |.ref a=>.ref a
 |_=>.bu
def IE(A:List Addr):aq ->Prop
 |.none=>True
 |.bool _=>True
 |.int _ _=>True
 |.str _ _=>True
 |.bytes _ _=>True
 |.ref a=>a∈A
 |_=>False
theorem IE.bI{A B:List Addr}(h:∀a∈A,a∈B):∀{u:aq},IE A u ->IE B u:=λ{u} x=>by
 cases u with
 |ref a=>exact h a x
 |none=>trivial
 |bool b=>trivial
 |int i t=>trivial
 |str s t=>trivial
 |bytes b t=>trivial
 |_=>exact jZ x
theorem Lm{A:List Addr}{u:aq}(x:IE A u):bT (Bd u) u:=by
 cases u with
 |ref a=>rfl
 |none=>rfl
 |bool b=>rfl
 |int i t=>exact⟨t,rfl⟩
 |str s t=>exact⟨t,rfl⟩
 |bytes b t=>exact⟨t,rfl⟩
 |_=>exact jZ x
theorem lf{A:List Addr}:∀{vs:List aq},(∀u∈vs,IE A u) ->bv (vs.map Bd) vs
 |[],_=>.nil
 |u::r,h=>.cons (Lm (h u (fM ..))) (lf λ x hx=>h x (ff _ hx))
def mq(h:Heap)(A:List Addr)(a:Addr):Prop:=∃vs:List aq,vs.length<=sizeLine/\(∀u∈vs,IE A u)/\
 (h.get? a=some {cls:=.type "list",data:=.seq vs.toArray}\/h.get? a=some {cls:=.type "tuple",data:=.seq vs.toArray})
theorem mq.bI{h:Heap}{A B:List Addr}{a:Addr}(k:∀a∈A,a∈B)(x:mq h A a):mq h B a:=by
 obtain⟨vs,h1,h2,h3⟩:=x;exact⟨vs,h1,λ u hu=>(h2 u hu).bI k,h3⟩
theorem ke{P:v9}{h:Heap}:∀{vs:List aq}{ds:List WData},WellAll P h vs ds ->vs.length=ds.length
 |_,_,.nil=>rfl
 |_,_,.cons _ b=>by
  show _+1=_+1;rw[ke b]
theorem yP{P:v9}{h:Heap}{v:aq}{ds:List WData}(x:Well P h v (.list ds)):∃(a:Addr)(vs:List aq),v=.ref a/\h.get? a=some {cls:=.type "list",data:=.seq vs.toArray}/\WellAll P h vs ds:=by
 cases x with
 |list ho ib=>exact⟨_,_,rfl,ho,ib⟩
theorem v_{P:v9}{h:Heap}{v:aq}{ds:List WData}(x:Well P h v (.tuple ds)):∃(a:Addr)(vs:List aq),v=.ref a/\h.get? a=some {cls:=.type "tuple",data:=.seq vs.toArray}/\WellAll P h vs ds:=by
 cases x with
 |tuple ho ib=>exact⟨_,_,rfl,ho,ib⟩
theorem yQ{P:v9}{h:Heap}{us:List aq}{d:WData}{ds:List WData}(x:WellAll P h us (d::ds)):∃(v:aq)(vs:List aq),us=v::vs/\Well P h v d/\WellAll P h vs ds:=by
 cases x with
 |cons a b=>exact⟨_,_,rfl,a,b⟩
theorem Gz{n:Nat}(h:n<=1048576):n<=sizeLine:=fB h zq_dc
section
variable{P:v9}{h:Heap}
mutual
theorem Ln:∀(d:WData)(v:aq),Well P h v d ->Gy d=true ->d.weight<=1048576 ->∃A:List Addr,IE A v/\∀a∈A,mq h A a
 |.none,_,x,_,_=>by
  cases x;exact⟨[],trivial,λ a m=>absurd m aL⟩
 |.bool b,_,x,_,_=>by
  cases x;exact⟨[],trivial,λ a m=>absurd m aL⟩
 |.int i,_,x,_,_=>by
  cases x;exact⟨[],trivial,λ a m=>absurd m aL⟩
 |.str s,_,x,_,_=>by
  cases x;exact⟨[],trivial,λ a m=>absurd m aL⟩
 |.bytes b,_,x,_,_=>by
  cases x;exact⟨[],trivial,λ a m=>absurd m aL⟩
 |.list ds,_,x,p,z=>by
  obtain⟨a,vs,rfl,ho,ib⟩:=yP x;have z2:WData.weightAll ds<=1048576:=z;obtain⟨A,h1,h2⟩:=qU ds _ ib p λ d hd=>fB (qi hd) z2
  have k:∀b∈A,b∈a::A:=λ b hb=>ff _ hb
  refine⟨a::A,fM ..,λ b hb=>?_⟩;rcases eB.mp hb with e|m
  .rw[e];exact⟨vs,Gz (by rw[ke ib];exact fB (Y1 ds) z2),λ u hu=>(h1 u hu).bI k,.inl ho⟩
  .exact(h2 b m).bI k
 |.tuple ds,_,x,p,z=>by
  obtain⟨a,vs,rfl,ho,ib⟩:=v_ x;have z2:WData.weightAll ds<=1048576:=z;obtain⟨A,h1,h2⟩:=qU ds _ ib p λ d hd=>fB (qi hd) z2
  have k:∀b∈A,b∈a::A:=λ b hb=>ff _ hb
  refine⟨a::A,fM ..,λ b hb=>?_⟩;rcases eB.mp hb with e|m
  .rw[e];exact⟨vs,Gz (by rw[ke ib];exact fB (Y1 ds) z2),λ u hu=>(h1 u hu).bI k,.inr ho⟩
  .exact(h2 b m).bI k
 |.float _,_,_,p,_=>kf (show false=true from p)
 |.dict _,_,_,p,_=>kf (show false=true from p)
 |.bytearray _,_,_,p,_=>kf (show false=true from p)
 |.set _,_,_,p,_=>kf (show false=true from p)
 |.frozenset _,_,_,p,_=>kf (show false=true from p)
 |.obj _ _,_,_,p,_=>kf (show false=true from p)
theorem qU:∀(ds:List WData)(vs:List aq),WellAll P h vs ds ->uU ds=true ->(∀d∈ds,d.weight<=1048576) ->∃A:List Addr,(∀u∈vs,IE A u)/\∀a∈A,mq h A a
 |[],_,x,_,_=>by
  cases x;exact⟨[],λ u m=>absurd m aL,λ a m=>absurd m aL⟩
 |d::ds,_,x,p,z=>by
  obtain⟨v,vs,rfl,x1,x2⟩:=yQ x;have q:Gy d=true/\uU ds=true:=Lo.mp p;obtain⟨A,a1,a2⟩:=Ln d v x1 q.1 (z d (fM ..));obtain⟨B,b1,b2⟩:=qU ds vs x2 q.2 λ e he=>z e (ff _ he)
  have kA:∀b∈A,b∈A++B:=λ b hb=>kX.mpr (.inl hb)
  have kB:∀b∈B,b∈A++B:=λ b hb=>kX.mpr (.inr hb)
  refine⟨A++B,λ u hu=>?_,λ b hb=>?_⟩
  .rcases eB.mp hu with e|m
   .rw[e];exact a1.bI kA
   .exact(b1 u m).bI kB
  .rcases kX.mp hb with m|m
   .exact(a2 b m).bI kA
   .exact(b2 b m).bI kB
end
end
def Qt(o:Obj):Option HO:=match o.data with
 |.seq vs _=>if(o.cls==Ia "list")=true then some (.yr o (.aD (vs.toList.map Bd)))else some (.yr o (.fc (vs.toList.map Bd)))
 |_=>none
def lh(K:aE)(h:Heap)(A:List Addr):Hp:=λ b=>if b∈A then(if(K.lookup b).isNone=true then(h.get? b).bind Qt else none)else none
def S9(H:Hp):Prop:=∀b,H b=none\/∃o u,H b=some (.yr o u)
theorem BQ(vs:List aq):Qt {cls:=.type "list",data:=.seq vs.toArray}=some (.yr {cls:=.type "list",data:=.seq vs.toArray} (.aD (vs.map Bd))):=by
 show(if(Ia "list"==Ia "list")=true then some (HO.yr {cls:=.type "list",data:=.seq vs.toArray} (.aD (vs.toArray.toList.map Bd)))else some (HO.yr {cls:=.type "list",data:=.seq vs.toArray} (.fc (vs.toArray.toList.map Bd))))=_;rw[au (beq_self_eq_true _)]
theorem BR(vs:List aq):Qt {cls:=.type "tuple",data:=.seq vs.toArray}=some (.yr {cls:=.type "tuple",data:=.seq vs.toArray} (.fc (vs.map Bd))):=by
 show(if(Ia "tuple"==Ia "list")=true then some (HO.yr {cls:=.type "tuple",data:=.seq vs.toArray} (.aD (vs.toArray.toList.map Bd)))else some (HO.yr {cls:=.type "tuple",data:=.seq vs.toArray} (.fc (vs.toArray.toList.map Bd))))=_;rw[ao zq_dc]
section
variable{P:dz}{w:c9}{K:aE}{h:Heap}{A:List Addr}
theorem vv{b:Addr}{o:Obj}(hb:b∈A)(hk:K.lookup b=none)(e:h.get? b=some o):lh K h A b=Qt o:=by
 unfold lh;rw[au hb,hk,au (show(none:Option Obj).isNone=true from rfl),e]<;>rfl
theorem Qu{b:Addr}{u:HO}(q:lh K h A b=some u):b∈A/\K.lookup b=none:=by
 unfold lh at q;by_cases hb:b∈A
 .rw[au hb]at q;cases hk:K.lookup b with
  |none=>exact⟨hb,rfl⟩
  |some o=>
   rw[hk,ao aL]at q;cases q
 .rw[ao hb]at q;cases q
theorem vw(ar:∀a∈A,mq h A a){b:Addr}{u:HO}(q:lh K h A b=some u):K.lookup b=none/\∃vs:List aq,vs.length<=sizeLine/\(∀u∈vs,IE A u)/\
  ((h.get? b=some {cls:=.type "list",data:=.seq vs.toArray}/\u=.yr {cls:=.type "list",data:=.seq vs.toArray} (.aD (vs.map Bd)))\/
   (h.get? b=some {cls:=.type "tuple",data:=.seq vs.toArray}/\u=.yr {cls:=.type "tuple",data:=.seq vs.toArray} (.fc (vs.map Bd)))):=by
 obtain⟨hb,hk⟩:=Qu q;obtain⟨vs,h1,h2,h3⟩:=ar b hb;refine⟨hk,vs,h1,h2,?_⟩;rcases h3 with e|e
 .rw[vv hb hk e,BQ]at q;exact .inl ⟨e,(cT q).symm⟩
 .rw[vv hb hk e,BR]at q;exact .inr ⟨e,(cT q).symm⟩
theorem IF(ar:∀a∈A,mq h A a):S9 (lh K h A):=λ b=>by
 cases q:lh K h A b with
 |none=>exact .inl rfl
 |some u=>
  obtain⟨_,vs,_,_,⟨_,e⟩|⟨_,e⟩⟩:=vw ar q
  .exact .inr ⟨_,_,by rw[e]⟩
  .exact .inr ⟨_,_,by rw[e]⟩
theorem Qv(ar:∀a∈A,mq h A a):qa P w (lh K h A) h:=λ b u q=>by
 obtain⟨_,vs,h1,h2,⟨e,rfl⟩|⟨e,rfl⟩⟩:=vw ar q
 .exact⟨e,by rw[ak];exact h1,vs,_,lf h2,e⟩
 .exact⟨e,by rw[ak];exact h1,vs,lf h2,_,e,rfl,_,rfl⟩
theorem vx{c c':aq}{vs us:List aq}(e:(some {cls:=c,data:=.seq vs.toArray}:Option Obj)=some {cls:=c',data:=.seq us.toArray}):c=c'/\vs=us:=by
 have e1:=cT e;have e2:c=c':=congrArg Obj.cls e1;have e3:Data.seq vs.toArray=Data.seq us.toArray:=congrArg Obj.data e1
 injection e3 with e4
 refine⟨e2,?_⟩;have e5:=congrArg X2 e4;simpa using e5
theorem acM(KX:K.In h)(ar:∀a∈A,mq h A a){a:Addr}{vs:List aq}(ha:a∈A)(e:h.get? a=some {cls:=.type "list",data:=.seq vs.toArray}):(∀u∈vs,IE A u)/\aP K (lh K h A) a (vs.map Bd):=by
 obtain⟨us,h1,h2,h3⟩:=ar a ha;have hu:us=vs:=by
  rcases h3 with q|q
  .rw[e]at q;exact(vx q).2.symm
  .rw[e]at q;exact absurd (Y2 (vx q).1) zq_dc
 subst hu;refine⟨h2,?_⟩;cases hk:K.lookup a with
 |none=>exact .inl (.inr ⟨_,by rw[vv ha hk e,BQ]⟩)
 |some o=>
  have e2:=KX a o hk;rw[e]at e2;obtain rfl:=cT e2;exact .inr ⟨_,us.toArray,_,hk,rfl,rfl,rfl,by rw[cV];exact h1,by simpa using lf h2⟩
theorem acN(KX:K.In h)(ar:∀a∈A,mq h A a){a:Addr}{vs:List aq}(ha:a∈A)(e:h.get? a=some {cls:=.type "tuple",data:=.seq vs.toArray}):(∀u∈vs,IE A u)/\e9 K (lh K h A) a (vs.map Bd):=by
 obtain⟨us,h1,h2,h3⟩:=ar a ha;have hu:us=vs:=by
  rcases h3 with q|q
  .rw[e]at q;exact absurd (Y2 (vx q).1) zq_dc
  .rw[e]at q;exact(vx q).2.symm
 subst hu;refine⟨h2,?_⟩;cases hk:K.lookup a with
 |none=>exact .inl (.inr ⟨_,by rw[vv ha hk e,BR]⟩)
 |some o=>
  have e2:=KX a o hk;rw[e]at e2;obtain rfl:=cT e2;exact .inr ⟨_,us.toArray,_,hk,rfl,rfl,by rw[cV];exact h1,by simpa using lf h2⟩
mutual
theorem Vy{Pm:v9}(KX:K.In h)(ar:∀a∈A,mq h A a):∀(d:WData)(v:aq),Well Pm h v d ->Gy d=true ->IE A v ->Dw K (lh K h A) (Bd v) d
 |.none,_,x,_,_=>by
  cases x;exact .bu
 |.bool b,_,x,_,_=>by
  cases x;exact .bl b
 |.int i,_,x,_,_=>by
  cases x;exact .int i
 |.str s,_,x,_,_=>by
  cases x;exact .str s
 |.bytes b,_,x,_,_=>by
  cases x;have z:=Dw.zE (K:=K) (H:=lh K h A) b.toArray;exact z
 |.list ds,_,x,p,hu=>by
  obtain⟨a,vs,rfl,ho,ib⟩:=yP x;obtain⟨h2,hs⟩:=acM KX ar hu ho;exact .aD hs (z0 KX ar ds _ ib p h2)
 |.tuple ds,_,x,p,hu=>by
  obtain⟨a,vs,rfl,ho,ib⟩:=v_ x;obtain⟨h2,hs⟩:=acN KX ar hu ho;exact .fc hs (z0 KX ar ds _ ib p h2)
 |.float _,_,_,p,_=>kf (show false=true from p)
 |.dict _,_,_,p,_=>kf (show false=true from p)
 |.bytearray _,_,_,p,_=>kf (show false=true from p)
 |.set _,_,_,p,_=>kf (show false=true from p)
 |.frozenset _,_,_,p,_=>kf (show false=true from p)
 |.obj _ _,_,_,p,_=>kf (show false=true from p)
theorem z0{Pm:v9}(KX:K.In h)(ar:∀a∈A,mq h A a):∀(ds:List WData)(vs:List aq),WellAll Pm h vs ds ->uU ds=true ->(∀u∈vs,IE A u) ->jH K (lh K h A) (vs.map Bd) ds
 |[],_,x,_,_=>by
  cases x;exact .nil
 |d::ds,_,x,p,hu=>by
  obtain⟨v,vs,rfl,x1,x2⟩:=yQ x;have q:Gy d=true/\uU ds=true:=Lo.mp p;exact .cons (Vy KX ar d v x1 q.1 (hu _ (fM ..))) (z0 KX ar ds vs x2 q.2 λ u m=>hu u (ff _ m))
end
end
theorem wa{ds:List WData}(h:WData.layableAll ds=true):∀d∈ds,d.weight<=1048576:=λ d hd=>
 (PySem.W.layableW_iff.mp (fG.mp h d hd)).2.2
theorem wb:∀(cs:List Codec)(a:Codec.denoteAll cs),(Codec.encAll cs a).length=cs.length
 |[],_=>rfl
 |c::cs,a=>by
  show(Codec.encAll cs a.2).length+1=cs.length+1;rw[wb cs a.2]
end L2
end
namespace MS
structure Ord{α:Type}(lt:α ->α ->Bool):Prop where
 irrefl:∀a,lt a a=false
 trans:∀a b c,lt a b=true ->lt b c=true ->lt a c=true
 neg:∀a b c,lt a c=true ->lt a b=true\/lt b c=true
 total:∀a b,lt a b=false ->lt b a=false ->a=b
def bD{α β:Type}(lt:α ->α ->Bool)(z:α×β):List (α×β) ->List (α×β)
 |[]=>[z]
 |k::r=>if lt z.1 k.1=true then z::k::r else k::bD lt z r
def eI{α β:Type}(lt:α ->α ->Bool)(zs:List (α×β)):List (α×β):=zs.foldl (λ l z=>bD lt z l) []
def same{α β:Type}(lt:α ->α ->Bool)(c:α)(p:α×β):Bool:= !lt p.1 c&& !lt c p.1
abbrev jI{α β:Type}(lt:α ->α ->Bool)(l:List (α×β)):Prop:=l.Pairwise λ p q=>lt q.1 p.1=false
section
variable{α β:Type}{lt:α ->α ->Bool}(O:Ord lt)
include O
theorem S_{a b:α}(h:lt a b=true):lt b a=false:=by
 cases e:lt b a with
 |false=>rfl
 |true=>have:=O.trans _ _ _ h e;rw[O.irrefl]at this;cases this
theorem Ta{a b c:α}(h1:lt a b=true)(h2:lt c b=false):lt a c=true:=by
 rcases O.neg _ c _ h1 with h|h
 .exact h
 .rw[h2]at h;cases h
theorem gY{c:α}{p:α×β}:same lt c p=true↔p.1=c:=by
 constructor
 .intro h;unfold same at h;rw[bq,GA,GA]at h;exact O.total _ _ h.1 h.2
 .rintro rfl
  unfold same;rw[O.irrefl];rfl
omit O in
theorem GB{z x:α×β}:∀{l:List (α×β)},x∈bD lt z l↔x=z\/x∈l
 |[]=>by simp[bD]
 |k::r=>by
  unfold bD;split
  .simp
  .rw[eB,GB (l:=r),eB];constructor
   .rintro (h|h|h)
    .exact .inr (.inl h)
    .exact .inl h
    .exact .inr (.inr h)
   .rintro (h|h|h)
    .exact .inr (.inl h)
    .exact .inl h
    .exact .inr (.inr h)
theorem wc{z:α×β}:∀{l:List (α×β)},jI lt l ->jI lt (bD lt z l)
 |[],_=>List.pairwise_singleton _ _
 |k::r,h=>by
  obtain⟨h1,h2⟩:=pL.mp h;unfold bD;split
  .rename_i hz
   refine pL.mpr ⟨λ q hq=>?_,h⟩;rcases eB.mp hq with rfl|hq
   .exact S_ O hz
   .exact S_ O (Ta O hz (h1 q hq))
  .rename_i hz
   have hz:lt z.1 k.1=false:=by simpa using hz
   refine pL.mpr ⟨λ q hq=>?_,wc h2⟩;rcases GB.mp hq with rfl|hq
   .exact hz
   .exact h1 q hq
theorem wd{z:α×β}(c:α):∀{l:List (α×β)},jI lt l ->(bD lt z l).filter (same lt c)=l.filter (same lt c)++(if same lt c z=true then [z]else [])
 |[],_=>by
  unfold bD;rw[gZ,Y3];split<;>simp_all
 |k::r,h=>by
  obtain⟨h1,h2⟩:=pL.mp h;unfold bD;split
  .rename_i hz
   rw[gZ];by_cases hc:same lt c z=true
   .rw[au hc,au hc];have e:z.1=c:=(gY O).mp hc;have no:(k::r).filter (same lt c)=[]:=by
     rw[Lq];intro q hq hs;have eq:q.1=c:=(gY O).mp hs;have:lt z.1 q.1=true:=by
      rcases eB.mp hq with rfl|hq
      .exact hz
      .exact Ta O hz (h1 q hq)
     rw[e,eq,O.irrefl]at this;cases this
    rw[no];rfl
   .rw[ao hc,ao hc,tZ]
  .rw[gZ,gZ,wd c h2];split<;>rfl
theorem sN:∀(zs acc:List (α×β)),jI lt acc ->jI lt (zs.foldl (λ l z=>bD lt z l) acc)/\∀c,(zs.foldl (λ l z=>bD lt z l) acc).filter (same lt c)=acc.filter (same lt c)++zs.filter (same lt c)
 |[],acc,h=>⟨h,λ c=>by simp⟩
 |z::r,acc,h=>by
  have ih:=sN r (bD lt z acc) (wc O h);refine⟨ih.1,λ c=>?_⟩;show(r.foldl (λ l z=>bD lt z l) (bD lt z acc)).filter (same lt c)=_;rw[ih.2 c,wd O c h,gZ];split<;>simp
theorem qV(zs:List (α×β)):jI lt (eI lt zs):=(sN O zs [] Y4).1
theorem qW(zs:List (α×β))(c:α):(eI lt zs).filter (same lt c)=zs.filter (same lt c):=by
 have:=(sN O zs [] Y4).2 c;rw[Y3,t_]at this;exact this
theorem IB:∀{l1 l2:List (α×β)},jI lt l1 ->jI lt l2 ->(∀c,l1.filter (same lt c)=l2.filter (same lt c)) ->l1=l2
 |[],[],_,_,_=>rfl
 |[],y::r,_,_,h=>by
  have:=h y.1;rw[gZ,au ((gY O).mpr rfl)]at this;cases this
 |x::r,[],_,_,h=>by
  have:=h x.1;rw[gZ,au ((gY O).mpr rfl)]at this;cases this
 |x::r1,y::r2,s1,s2,h=>by
  obtain⟨a1,b1⟩:=pL.mp s1;obtain⟨a2,b2⟩:=pL.mp s2;have hx:=h x.1;have hy:=h y.1;rw[gZ,au ((gY O).mpr rfl)]at hx;have key:x.1=y.1:=by
   apply O.total
   ·
    have mx:x∈(y::r2).filter (same lt x.1):=by rw[<-hx];exact fM
    have mx2:=(ii.mp mx).1;rcases eB.mp mx2 with e|e
    .rw[e];exact O.irrefl _
    .exact a2 x e
   .have my:y∈(x::r1).filter (same lt y.1):=by
     rw[hy,gZ,au ((gY O).mpr rfl)];exact fM
    have my2:=(ii.mp my).1;rcases eB.mp my2 with e|e
    .rw[e];exact O.irrefl _
    .exact a1 y e
  rw[gZ,au ((gY O).mpr key.symm)]at hx;have exy:x=y:=(Tc hx).1;subst exy;congr 1;refine IB b1 b2 λ c=>?_
  have hc:=h c;rw[gZ,gZ]at hc;by_cases e:same lt c x=true
  .rw[au e,au e]at hc;exact(Tc hc).2
  .rw[ao e,ao e]at hc;exact hc
theorem BS{ws zs:List (α×β)}(s:jI lt ws)(h:∀c,ws.filter (same lt c)=zs.filter (same lt c)):ws=eI lt zs:=
 IB O s (qV O zs) λ c=>(h c).trans (qW O zs c).symm
end
end MS
namespace L2
open PySem PySem.Spec PyProof.Rows
open PySem.W (kla_obj kla_fn CodeHd tabObj envX)
def qX(tr:List (Int×Int×Addr)):List aq:=tr.flatMap λ t=>[rawInt t.1,rawInt t.2.1,ji t.2.2]
def qY(c:Addr)(qual:Str):HO:=.ext λ h=>h.CodeRec (.ref c) qual
structure Y5(H:Hp)(P:Addr)(qual:Str)(tr:List (Int×Int×Addr)):Prop where
 tab:H P=some (.tP (qX tr).toArray)
 cds:∀t∈tr,H t.2.2=some (qY t.2.2 qual)
def qj(H:Hp)(P:Addr)(qual:Str):Prop:=∃tr,Y5 H P qual tr
theorem GC:∀tr:List (Int×Int×Addr),Td (qX tr)
 |[]=>trivial
 |t::r=>by
  show Td (rawInt t.1::rawInt t.2.1::ji t.2.2::qX r);exact GC r
theorem we{pos:Pos}:∀(tr:List (Int×Int×Addr))(v:aq),codeAmong pos (qX tr)=some v ->∃t∈tr,v=ji t.2.2
 |[],v,h=>by cases h
 |t::r,v,h=>by
  have h':(if t.1==pos.line&&t.2.1==pos.col then some (ji t.2.2)else codeAmong pos (qX r))=some v:=h;split at h'
  .cases h';exact⟨t,fM,rfl⟩
  .obtain⟨q,hq,e⟩:=we r v h';exact⟨q,ff _ hq,e⟩
theorem yR(tr:List (Int×Int×Addr))(a b:Int)(c:Addr):(qX tr).toArray++#[rawInt a,rawInt b,ji c]=(qX (tr++[(a,b,c)])).toArray:=by
 unfold qX;simp[GD]
def BU(mg:Str ->Option aq)(base:Heap):Prop:=∃bm o,mg "__builtins__"=some (.ref bm)/\bm≠builtinsNs/\bm≠mainGlobals/\base.get? bm=some o/\o.cls=.type "module"/\o.dict=some builtinsNs/\o.data=.plain
structure BV(K:aE)(mg:Str ->Option aq)(base:Heap)(cd:aq)(P:Addr):Prop where
 code:∃c,cd=.ref c/\∀h:Heap,K.In h ->CodeHd h c P
 blt:BU mg base
section
variable{X:Cx}{pins:List (Addr×Obj)}{σ:St}{H:Hp}{s:ap}
theorem aZ.neP(I:aZ X pins σ H s){b P:Addr}{o:Obj}{u:HO}(e:X.base.get? b=some o)(hP:H P=some u):b≠P:=λ z=>by
 have:=(I.bs b o e).2;rw[z,hP]at this;cases this
theorem BW{P:Addr}{params:nB}{body:Expr}{scope:fz}{pd:Pos}{cz:List (Str×Addr)}{E:aq ->ap ->Prop}{Q:aq ->ap ->Prop}
  (I:aZ X pins σ H s) (hh:BV X.K X.mg X.base X.aC.code P) (T:qj H P (X.aC.qual++"<lambda>")) (zX:closureFor scope X.aC=pure cz) (acO:defaultsOf params X.aC=([],[]))
  (h:∀f c' wg s' H',aZ X pins σ H' s' ->qj H' P (X.aC.qual++"<lambda>") ->(∀b o,H b=some o ->b≠P ->H' b=some o) ->
   s'.heap.get? f=some (kla_obj "<lambda>" (X.aC.qual++"<lambda>") params body scope cz ((X.mg "__name__").getD .none) c' wg) ->s.heap.objs.size<=f ->H' f=none ->s'.heap.CodeRec (.ref c') (X.aC.qual++"<lambda>") ->H' c'=some (qY c' (X.aC.qual++"<lambda>")) ->Q (.ref f) s'):
  wpAny (model X.prog X.w) X.A (eval (.Lambda params body scope pd) X.aC) Q E s:=by
 obtain⟨tr,hT,Lr⟩:=T;obtain⟨⟨c,Te,hc⟩,bm,ob,b1,b2,b3,b4,b5,b6,b7⟩:=hh;have hPo:s.heap.get? P=some (tabObj (qX tr).toArray):=I.db P _ hT;have hg:s.heap.Ns mainGlobals X.mg:=I.mod.uP.keeps I.bk;have hgP:mainGlobals≠P:=by
  obtain⟨o,es,ep,e,_⟩:=I.mod.uP;exact I.neP e hT
 have Y6:bm≠P:=I.neP b4 hT;have hb:s.heap.BuiltinsAt X.mg P:=⟨bm,ob,b1,b2,b3,Y6,I.bk bm ob b4,b5,b6,b7⟩;have ht:Td (qX tr).toArray.toList:=by simpa using GC tr
 refine PySem.W.kla_eval acO ?_;cases hq:codeAmong pd (qX tr).toArray.toList with
 |some cv=>
  obtain⟨t,htm,rfl⟩:=we tr cv (by simpa using hq);refine PySem.W.kla_makeFunctionHit (mg:=X.mg) zX I.ok.uP hg Te (hc _ I.Bc) hPo ht hq hb λ wg h' tk hk hsz=>?_
  have k2:∀b o,s.heap.get? b=some o ->(h'.push (kla_obj "<lambda>" (X.aC.qual++"<lambda>") params body scope cz ((X.mg "__name__").getD .none) t.2.2 wg)).get? b=some o:=λ b o e=>cf _ (hk b o e)
  have I2:=I.fw (t':=tk) k2;refine h _ t.2.2 wg _ H I2 ⟨tr,hT,Lr⟩ (λ b o e _=>e) (fN _ rfl) hsz (I.db.fresh hsz) ?_ (Lr t htm);exact(I2.db _ _ (Lr t htm)).1
 |none=>
  refine PySem.W.kla_makeFunction (mg:=X.mg) zX I.ok.uP hg Te (hc _ I.Bc) hPo ht hq hgP hb λ c' wg h' tk hx hge dC acP htb=>?_
  rw[yR]at htb;have Ls:H c'=none:=I.db.fresh hge;have hcP:c'≠P:=λ z=>by rw[z,hT]at Ls;cases Ls
  have hPs:P<s.heap.objs.size:=dB hPo;have hsz:s.heap.objs.size<=h'.objs.size:=fB hge (Ie dC)
  let fo:=kla_obj "<lambda>" (X.aC.qual++"<lambda>") params body scope cz ((X.mg "__name__").getD .none) c' wg
  let H':=aS (aS H P (.tP (qX (tr++[((pd.line:Int),(pd.col:Int),c')])).toArray)) c' (qY c' (X.aC.qual++"<lambda>"))
  have k2:∀b o,b≠P ->s.heap.get? b=some o ->(h'.push fo).get? b=some o:=λ b o hb e=>cf _ (hx b o hb e)
  have nP:∀b,H b=none ->b≠P:=λ b n z=>by rw[z,hT]at n;cases n
  have Es:∀b o,H b=some o ->b≠P ->H' b=some o:=λ b o e hb=>by
   show aS (aS H P _) c' _ b=some o;rw[ag (aM e Ls),ag hb];exact e
  have hP':H' P=some (.tP (qX (tr++[((pd.line:Int),(pd.col:Int),c')])).toArray):=by
   show aS (aS H P _) c' _ P=_;rw[ag (qb hcP),aa]
  have hC':H' c'=some (qY c' (X.aC.qual++"<lambda>")):=aa;have Lu:(h'.push fo).CodeRec (.ref c') (X.aC.qual++"<lambda>"):=by
   obtain⟨c₂,o₂,vs₂,t₂,e₂,g₂,r₂⟩:=acP;exact⟨c₂,o₂,vs₂,t₂,e₂,cf _ g₂,r₂⟩
  have un:Un X.fs [] H H' s.heap (h'.push fo):=by
   refine⟨λ b o e n _ _=>k2 b o (nP b n) e,λ b o e n _ _=>⟨o.slots,k2 b o (nP b n) e⟩,λ b o e n _=>?_,λ b o e _=>?_,λ b xs e=>Es b _ e λ z=>?_,λ b o u e=>Es b _ e λ z=>?_,λ b ps e=>?_⟩
   .show aS (aS H P _) c' _ b=none;rw[ag (jj (iY (dB e) hge)),ag (nP b n)];exact n
   .by_cases hb:b=P
    .subst hb;exact⟨_,cf _ htb⟩
    .exact⟨o,k2 b o hb e⟩
   .rw[z,hT]at e;cases e
   .rw[z,hT]at e;cases e
   .by_cases hb:b=P
    .subst hb;rw[hT]at e;cases e;exact⟨#[rawInt pd.line,rawInt pd.col,ji c'],by rw[yR];exact hP'⟩
    .exact⟨#[],by rw[Es b _ e hb];simp⟩
  have db:qa X.prog X.w H' (h'.push fo):=λ b u e=>by
   by_cases hb:b=c'
   .subst hb;rw[hC']at e;cases e;obtain⟨c₂,o₂,vs₂,t₂,e₂,g₂,r₂⟩:=id Lu;cases e₂;refine⟨Lu,⟨o₂,g₂⟩,λ h1 h2 p q=>?_⟩;obtain⟨c₃,o₃,vs₃,t₃,e₃,g₃,r₃⟩:=p;cases e₃;exact⟨_,o₃,vs₃,t₃,rfl,q _ g₃,r₃⟩
   .by_cases Y6:b=P
    .subst Y6;rw[hP']at e;cases e;exact cf _ htb
    .have e0:H b=some u:=by
      have e':aS (aS H P (.tP (qX (tr++[((pd.line:Int),(pd.col:Int),c')])).toArray)) c' (qY c' (X.aC.qual++"<lambda>")) b=some u:=e;rw[ag hb,ag Y6]at e';exact e'
     refine(I.db b u e0).sA (λ d v hd q=>k2 d v ?_ q) (λ d q=>Es d _ q λ z=>?_) λ d xs q=>Es d _ q λ z=>?_
     .rcases hd with z|z
      .rw[z];exact Y6
      .intro z2;rw[z2,hT]at z;cases z
     .rw[z,hT]at q;cases q
     .rw[z,hT]at q;cases q
  have I2:aZ X pins σ H' {s with heap:=h'.push fo,toks:=tk}:=I.un (t':=tk) un db;refine h _ c' wg _ H' I2 ⟨tr++[((pd.line:Int),(pd.col:Int),c')],hP',λ t pM=>?_⟩ Es (fN _ rfl) hsz ?_ Lu hC'
  .rcases kX.mp pM with q|q
   .exact Es _ _ (Lr t q) λ z=>by have:=Lr t q;rw[z,hT]at this;cases this
   .rw[cW.mp q];exact hC'
  .show aS (aS H P _) c' _ h'.objs.size=none;rw[ag (zK dC),ag (zK (iY hPs hsz))];exact I.db.fresh hsz
end
def qZ(X:Cx)(N:List Str)(qual:Str)(scope:fz)(f:Addr)(cd:aq)(cz:List (Str×Addr))(A:cw)(s:ap)(H:Hp):Cx where
 prog:=X.prog
 w:=X.w
 K:=X.K
 mg:=X.mg
 base:=X.base
 A:=A.deeper (envX qual scope s.heap.objs.size f cd cz)
 N:=N
 x8:=s
 Xc:=H
 aC:=envX qual scope s.heap.objs.size f cd cz
 aA:=X.stack
 stack:=envX qual scope s.heap.objs.size f cd cz::X.stack
 ex:=[]
 mS:=true
 fn:=λ _=>false
 pn:=[]
 xe:=λ _ _=>False
structure BX(X:Cx)(p:Str)(fr:List Str)(ix:List Nat)(scope:fz)(cz:List (Str×Addr)):Prop where
 kind:scope.kind=.function
 co:scope.isCoroutine=false
 gen:scope.isGenerator=false
 z6:∀x∈scope.names,x.2≠.cell
 K0:scope.names.lookup p=some .local
 free:∀(j:Nat)(x:Str),fr[j]?=some x ->scope.names.lookup x=some .free/\∃i,ix[j]?=some i/\X.N[i]?=some x/\(X.aC.kindOf x=some .cell\/X.aC.kindOf x=some .free)
 all:∀x,scope.names.lookup x=some .free ->x∈fr
 len:fr.length=ix.length
 GF:∀x c,cz.lookup x=some c ->X.aC.cells.lookup x=some c
 Tf:∀x c,x∈fr ->X.aC.cells.lookup x=some c ->cz.lookup x=some c
def q_(σ:St)(ix:List Nat):St:=ix.map λ i=>(σ[i]?).getD none
section
variable{X:Cx}{pins:List (Addr×Obj)}{σ:St}{H:Hp}{s:ap}
theorem Qw{A:cw}{p:Str}{fr:List Str}{ix:List Nat}{qual:Str}{params:nB}{body:Expr}{scope:fz}{cz:List (Str×Addr)}{pm wg:aq}{c' f:Addr}{u:aq}{x:V}{te:TE}{Q:VK}{k:Nat}
  (I:aZ X pins σ H s) (S:BX X p fr ix scope cz) (hf:s.heap.get? f=some (kla_obj "<lambda>" qual params body scope cz pm c' wg)) (D8:s.heap.CodeRec (.ref c') qual)
  (hb:bindArgs (kla_fn "<lambda>" qual params body scope cz pm (.ref c') wg) ⟨[u],[]⟩=pure [(p,u)]) (hr:dR (k+1) A) (hA:A.frames=some X.stack) (rx:bT x u)
  (k8:PE (qZ X (p::fr) qual scope f (.ref c') cz A s H) body te) (h:te (some x::q_ σ ix) H Q):
  wpAny (model X.prog X.w) A (call (.ref f) [u]) (EP X pins σ Q) (λ _ _=>False) s:=by
 refine KS ?_;refine PySem.W.kla_callFunE hr.depth hf rfl S.co S.gen rfl D8 ?_;show wpAny _ A.in1 (bindArgs (kla_fn "<lambda>" qual params body scope cz pm (.ref c') wg) ⟨[u],[]⟩) _ _ s;rw[hb];have lim:s.heap.NoLimit:=I.nolimit;refine bY (wpAny_newFunctionEnv S.z6 (λ y hy=>by rw[cW.mp hy];exact S.K0) (λ h₁ rc hsb=>⟨lim.fresh _ hsb,?_⟩) S.kind);show codeAny _ _ (.expr body (envX qual scope s.heap.objs.size f (.ref c') cz)) _ _;have hk₁:∀b o,s.heap.get? b=some o ->h₁.get? b=some o:=λ b o e=>hsb.extBut b o (jj (dB e)) (cf _ e)
 have Qe:∀b:Addr,b∉(qZ X (p::fr) qual scope f (.ref c') cz A s H).ex:=λ b z=>absurd (show b∈([]:List Addr) from z) aL
 have J:aZ (qZ X (p::fr) qual scope f (.ref c') cz A s H) [] (some x::q_ σ ix) H {s with heap:=h₁,toks:=s.toks+1}:=by
  refine⟨⟨I.ok.mod,S.kind,rfl,rfl,ci _,λ y z c h1 h2=>I.ok.inj y z c (S.GF y c h1) (S.GF z c h2),λ y hy=>?_,λ y c hz _=>kf (show false=true from hz),λ _=>hr.hd,Ym hA,.inr ⟨rfl,rfl⟩,λ b z=>absurd z (Qe b),I.bs,fB I.ok.Pk I.sz,λ b _ _=>Qe b,λ b z=>absurd z (Qe b),I.stack,I.zG⟩,
   rfl,I.jk,Un.fw hk₁,⟨_,rc,λ i y v h1 h2 h3=>?_⟩,λ y c h=>?_,I.db.fresh (ci _),λ y c h=>I.kW y c (S.GF y c h),λ q hq=>absurd (show q∈([]:List (Addr×Obj)) from hq) aL,I.db.fw hk₁,?_⟩
  .have hy:scope.names.lookup y=some .cell\/scope.names.lookup y=some .free:=hy;rcases hy with hy|hy
   .exact absurd rfl (S.z6 (y,.cell) (iJ hy))
   .obtain⟨j,hj,ej⟩:=gG (S.all y hy);obtain⟨_,i,_,_,hk⟩:=S.free j y (by rw[<-ej];simp[hj]);obtain⟨c,hc⟩:=I.ok.has y hk;exact⟨c,S.Tf y c (S.all y hy) hc⟩
  .cases i with
   |zero=>
    have e1:p=y:=cT h1;have e2:x=v:=cT (cT h2);subst e1;subst e2;refine⟨u,rx,.inl ⟨S.K0,?_⟩⟩;show pF p ([(p,u)]:List (Str×aq)).reverse=some u;simp
   |succ j=>
    have e1:fr[j]?=some y:=h1;obtain⟨Xh,i,hi,hN,hk⟩:=S.free j y e1;have e2:(q_ σ ix)[j]?=some (some v):=h2;have e3:(σ[i]?).getD none=some v:=by
     unfold q_ at e2;rw[aT,hi]at e2;exact cT e2
    have e4:σ[i]?=some (some v):=by
     cases q:σ[i]?with
     |none=>rw[q]at e3;cases e3
     |some w=>rw[q]at e3;exact congrArg some e3
    obtain⟨m,hn,hl⟩:=I.Bb;have hv:US X.aC.scope y:=by
     rcases hk with z|z
     .exact .inr (.inl z)
     .exact .inr (.inr z)
    obtain⟨w,Vl,l⟩:=hl i y v hN e4 hv;refine⟨w,Vl,.inr ⟨.inr Xh,?_⟩⟩;rcases l with⟨z,_⟩|⟨_,c,hc,yx⟩
    .rcases hk with q|q
     .rw[q]at z;cases z
     .rw[q]at z;cases z
    .obtain⟨o,ho,hd⟩:=yx;exact⟨c,S.Tf y c (cH e1) hc,o,hk₁ c o ho,hd⟩
  .obtain⟨v,o,ho,hd⟩:=I.cell y c (S.GF y c h);exact⟨v,o,hk₁ c o ho,hd⟩
  .show(some x::q_ σ ix).length=(p::fr).length;unfold q_;rw[iI,iI,ak,S.len]
 refine PySem.W.kla_codeExpr (o_ (k8 [] _ _ H Q J h) (λ v s' hq=>?_) λ _ _ z=>jZ z);obtain⟨w,H',J',rv,q⟩:=hq;exact I.after ⟨w,H',J'.os,J'.jk,J'.base,J'.db,rv,q⟩
end
def ae(H H':Hp):Prop:=∀b o,H b=some o ->H' b=some o
theorem ae.refl(H:Hp):ae H H:=λ _ _ h=>h
theorem ae.trans{H H1 H2:Hp}(a:ae H H1)(b:ae H1 H2):ae H H2:=λ c o h=>b c o (a c o h)
theorem ae.seq{K:aE}{H H':Hp}{a:Addr}{xs:List V}(e:ae H H')(h:aP K H a xs):aP K H' a xs:=by
 rcases h with(h|⟨o,h⟩)|h
 .exact .inl (.inl (e _ _ h))
 .exact .inl (.inr ⟨o,e _ _ h⟩)
 .exact .inr h
theorem ae.fc{K:aE}{H H':Hp}{a:Addr}{xs:List V}(e:ae H H')(h:e9 K H a xs):e9 K H' a xs:=by
 rcases h with(h|⟨o,h⟩)|h
 .exact .inl (.inl (e _ _ h))
 .exact .inl (.inr ⟨o,e _ _ h⟩)
 .exact .inr h
structure IG(X:Cx)(op:D9)(α:Type)where
 ok:Hp ->V ->α ->Prop
 lt:α ->α ->Bool
 bI:∀{H H':Hp}{v:V}{a:α},ae H H' ->ok H v a ->ok H' v a
 cmp:∀{A:cw}{pins:List (Addr×Obj)}{s:ap}{σ:St}{H:Hp}{x y:V}{a b:α}{u v:aq}{Q:aq ->ap ->Prop}{E:aq ->ap ->Prop},A.units<cLine ->aZ X pins σ H s ->bT x u ->bT y v ->ok H x a ->ok H y b ->Q (.bool (lt a b)) s ->
  wpAny (model X.prog X.w) A (richCompare op u v) Q E s
def uc(X:Cx)(H:Hp)(v:V)(ns:List Int):Prop:=∃p,v=.ref p/\e9 X.K H p (ns.map V.int)
def Lv(X:Cx):IG X .Lt (List Int)where
 ok:=uc X
 lt:=HT.lexLt
 bI:=λ s ⟨p,e,h⟩=>⟨p,e,s.fc h⟩
 cmp:=by
  intro A pins s σ H x y a b u v Q E hu I rx ry ⟨p,e1,h1⟩ ⟨q,e2,h2⟩ hq;subst e1 e2;cases rx;cases ry;obtain⟨bb,r1,p1,_⟩:=I.tuple h1;obtain⟨mT,r2,p2,_⟩:=I.tuple h2;have i1:i7 bb.toArray.toList a:=lK r1;have i2:i7 mT.toArray.toList b:=lK r2;exact HT.Ek p1 p2 i1 i2 hu hq
def pick{α β:Type}(lt:α ->α ->Bool):α×β ->List (α×β) ->α×β
 |b,[]=>b
 |b,c::r=>if lt c.1 b.1=true then pick lt c r else pick lt b r
def re(X:Cx)(σ:St)(A:cw)(f:Addr)(fo:Obj)(kr:V ->Hp ->VK ->Prop)(Ok:Hp ->Prop):Prop:=
 ∀(pins:List (Addr×Obj))(s:ap)(H:Hp)(x:V)(u:aq)(Q:VK),(f,fo)∈pins ->Ok H ->aZ X pins σ H s ->bT x u ->kr x H Q ->
  wpAny (model X.prog X.w) A (call (.ref f) [u]) (EP X pins σ Q) (λ _ _=>False) s
section
variable{X:Cx}{α:Type}
theorem fA.more{pins:List (Addr×Obj)}{H H':Hp}{b:Addr}(h:fA X pins H b)(hn:H' b=none):fA X pins H' b:=⟨hn,h.2⟩
structure Y7(X:Cx)(pins:List (Addr×Obj))(σ:St)(H1:Hp)(I S l:Addr)(H:Hp)(s:ap):Prop where
 inv:aZ X pins σ H s
 same:ae H1 H
 fi:fA X pins H I
 fs:fA X pins H S
theorem Lw(k:IG X .Lt α){A:cw}{pins:List (Addr×Obj)}{σ:St}{H1:Hp}{I S l f:Addr}{fo:Obj}{xs:List V}{ks:List α}{kr:V ->Hp ->VK ->Prop}{Ok:Hp ->Prop}{dk:List (Str×aq)}{R:Bw ->ap ->Prop}
  (hh:A.handled=none) (hu:A.units+1<cLine) (ud:∀H,ae H1 H ->Ok H) (Eo:(f,fo)∈pins) (hl:aP X.K H1 l xs) (bH:ks.length=xs.length) (Et:S≠I) (Lx:l≠I)
  (kc:re X σ A.in1 f fo kr Ok)
  (kx:∀(i:Nat)(x:V)(a:α)(H2:Hp),xs[i]?=some x ->ks[i]?=some a ->ae H1 H2 ->kr x H2 λ v H3=>k.ok H3 v a/\ae H2 H3):
  ∀(cC:List (α×V))(j:Nat)(H:Hp)(s:ap)(b:α×V)(vb kb:aq)(kv:V)(c:Nat),
   (∀(H':Hp)(s':ap)(u:aq),aZ X pins σ H' s' ->ae H1 H' ->bT (pick k.lt b cC).2 u ->R (.ok (.ret u)) s') ->
   (ks.zip xs).drop j=cC ->j<=xs.length ->Y7 X pins σ H1 I S l H s ->s.heap.IsListIter I l j ->s.heap.get? S=some (seqObj "list" #[vb,kb] c) ->bT b.2 vb ->bT kv kb ->k.ok H kv b.1 ->
   codeAny (model X.prog X.w) A (.builtin "min.loop" ⟨[.ref I,.ref f,.ref S],dk⟩) R s:=by
 have nV:(toString "min"++toString ".loop":String)="min.loop":=by decide
 intro cC;induction cC with
 |nil=>
  intro j H s b vb kb kv c hR hd hj M eG hS rb rk hk;have Y8:j=xs.length:=by
   have h1:((ks.zip xs).drop j).length=0:=by rw[hd];rfl
   rw[mj,GG,bH,Ly]at h1;omega
  obtain⟨bb,rv,pl,hz⟩:=M.inv.list (M.same.seq hl);have hsz:bb.toArray.size=j:=by rw[cV,<-rv.length,Y8]
  have W:=v0 (prog:=X.prog) (w:=X.w) (A:=A.in1) hh I l Lx bb.toArray;refine yS Tg ?_;rw[BY yT _];show wpAny _ A.in1 (seqItems? (.ref S)>>=_) _ _ _;refine az (iM hS rfl ?_);show wpAny _ A.in1 (tryCatch (pyNext (.ref I)) _>>=_) _ _ _;refine az (nW (W.done _ _ _ ⟨by rw[hsz];exact eG,pl.isList⟩ λ h' yd gj=>?_));have I1:=M.inv.dq (t':=yd) (ch:=[I]) gj (λ b hb=>by rw[cW.mp hb];exact M.fi);have GH:=gj S _ (by simpa using Et) hS;have s1:=nX h' S (dN λ _=>(#[]:Array aq));show wpAny _ A.in1 (updateSeq S (λ _=>#[])>>=_) _ _ _;refine az ?_;refine BZ GH rfl (az (mr (bY ?_)));have I2:=I1.dq (t':=yd) (ch:=[S]) (λ b o hb e=>(s1.2 b (by simpa using hb)).trans e) (λ b hb=>by rw[cW.mp hb];exact M.fs);exact hR H _ vb I2 M.same rb
 |cons r0 cC ih=>
  intro j H s b vb kb kv c hR hd hj M eG hS rb rk hk;obtain⟨a,x⟩:=r0;have hzj:(ks.zip xs)[j]?=some (a,x):=by
   have h1:((ks.zip xs).drop j)[0]?=some (a,x):=by rw[hd];rfl
   rw[GI]at h1;simpa using h1
  have hkj:ks[j]?=some a/\xs[j]?=some x:=by
   rw[GJ]at hzj;exact hzj
  have dC:j<xs.length:=(gM.mp hkj.2).1;have Kq:(ks.zip xs).drop (j+1)=cC:=by
   have h1:=congrArg (List.drop 1) hd;rw[GK]at h1;simpa using h1
  obtain⟨bb,rv,pl,hz⟩:=M.inv.list (M.same.seq hl);have hsz:bb.toArray.size=xs.length:=by rw[cV,<-rv.length]
  have W:=v0 (prog:=X.prog) (w:=X.w) (A:=A.in1) hh I l Lx bb.toArray;refine yS Tg ?_;rw[BY yT _];show wpAny _ A.in1 (seqItems? (.ref S)>>=_) _ _ _;refine az (iM hS rfl ?_);show wpAny _ A.in1 (tryCatch (pyNext (.ref I)) _>>=_) _ _ _;refine az (nW (W.item j _ _ _ (by rw[hsz];exact dC) ⟨eG,pl.isList⟩ λ v h' yd hP B0 gj=>?_));have Y9:bT x v:=by
   obtain⟨u,Th,ru⟩:=rv.get hkj.2;have e:bb[j]?=some v:=by simpa using hP
   rw[e]at Th;cases Th;exact ru
  obtain⟨Ti,Vz,UW,Xk⟩:=id B0.1;have I1:=M.inv.dq (t':=yd) (ch:=[I]) gj (λ b hb=>by rw[cW.mp hb];exact M.fi);have GH:=gj S _ (by simpa using Et) hS;have I2:aZ X (pins++[(I,Ti),(S,seqObj "list" #[vb,kb] c)]) σ H {s with heap:=h',toks:=yd}:=I1.lH λ p hp=>by
   rcases kX.mp hp with q|q
   .exact I1.tR p (ij _ q)
   .rcases eB.mp q with rfl|q
    .exact⟨Vz,M.fi.1,M.fi.2.1,M.fi.2.2.1,λ v z=>by rw[Xk]at z;cases z⟩
    .rw[cW.mp q];exact⟨GH,M.fs.1,M.fs.2.1,M.fs.2.2.1,λ v z=>by cases z⟩
  show wpAny _ A.in1 (tryCatch (holding [v] (call (.ref f) [v])) _>>=_) _ _ _;refine az (nW (uS (o_ (kc _ _ H x v _ (Py _ Eo) (ud H M.same) I2 Y9 (kx j x a H hkj.2 hkj.1 M.same)) (λ y s3 he=>?_) λ _ _ hF=>hF.elim)));obtain⟨kv2,H3,I3,rk2,Xl,Y_⟩:=he;have pI:=I3.tR (I,Ti) (ij _ (ij _ (.head _)));have pS:=I3.tR (S,seqObj "list" #[vb,kb] c) (ij _ (ij _ (.tail _ (.head _))));have I4:aZ X pins σ H3 s3:=I3.gT;have Za:ae H1 H3:=M.same.trans Y_;have acQ:s3.heap.IsListIter I l (j+1):=⟨Ti,pI.1,UW,Xk⟩;have fi3:fA X pins H3 I:=M.fi.more pI.2.1;have Xm:fA X pins H3 S:=M.fs.more pS.2.1;show wpAny _ A.in1 (tryCatch (holding [v,y] (richCompare .Lt y kb>>=_)) _>>=_) _ _ _;refine az (nW (uS (az (k.cmp (A:=A.in1) hu I4 rk2 rk Xl (k.bI Y_ hk) ?_))));refine az (uS (Bq ?_));refine az (mr (bY ?_));by_cases j7:k.lt a b.1=true
  .rw[j7];have s1:=nX s3.heap S (dN λ _=>#[v,y]);obtain⟨c2,Gk⟩:∃c2,(s3.heap.update S (dN λ _=>#[v,y])).get? S=some (seqObj "list" #[v,y] c2):=⟨_,yU pS.1 λ _=>#[v,y]⟩;simp only[mo];refine az ?_;refine BZ pS.1 rfl (az (mr ?_));rw[nV];have I5:=I4.dq (t':=s3.toks) (ch:=[S]) (λ b o hb e=>(s1.2 b (by simpa using hb)).trans e) (λ b hb=>by rw[cW.mp hb];exact Xm);refine bY ⟨wj yT _,ih (j+1) H3 _ (a,x) v y kv2 c2 (λ H' s' u i1 i2 i3=>hR H' s' u i1 i2 ?_) Kq dC ⟨I5,Za,fi3,Xm⟩ ⟨Ti,(s1.2 I Et.symm).trans pI.1,UW,Xk⟩ Gk Y9 rk2 Xl⟩;show bT (if k.lt a b.1=true then pick k.lt (a,x) cC else pick k.lt b cC).2 u;rw[au j7];exact i3
  .have Qx:k.lt a b.1=false:=by simpa using j7
   rw[Qx];simp only[v6,pH];refine az (mr ?_);rw[nV];refine bY ⟨wj yT _,ih (j+1) H3 _ b vb kb kv c (λ H' s' u i1 i2 i3=>hR H' s' u i1 i2 ?_) Kq dC ⟨I4,Za,fi3,Xm⟩ acQ pS.1 rb rk (k.bI Y_ hk)⟩;show bT (if k.lt a b.1=true then pick k.lt (a,x) cC else pick k.lt b cC).2 u;rw[ao j7];exact i3
end
theorem B1(a v d:aq):argsOk "min" ⟨[a],[(cZ "key",v),(cZ "default",d)]⟩:=by unfold argsOk;kernel_rfl
structure jn(X:Cx)(p:Str)(fr:List Str)(ix:List Nat)(params:nB)(body:Expr)(scope:fz):Prop where
 kind:scope.kind=.function
 co:scope.isCoroutine=false
 gen:scope.isGenerator=false
 z6:∀x∈scope.names,x.2≠.cell
 K0:scope.names.lookup p=some .local
 free:∀(j:Nat)(x:Str),fr[j]?=some x ->scope.names.lookup x=some .free/\∃i,ix[j]?=some i/\X.N[i]?=some x/\(X.aC.kindOf x=some .cell\/X.aC.kindOf x=some .free)
 all:∀x,scope.names.lookup x=some .free ->x∈fr
 len:fr.length=ix.length
 cl:(∀y∈fr,∃c,X.aC.cells.lookup y=some c) ->∃cz,closureFor scope X.aC=pure cz/\(∀x c,cz.lookup x=some c ->X.aC.cells.lookup x=some c)/\∀x c,x∈fr ->X.aC.cells.lookup x=some c ->cz.lookup x=some c
 dflt:defaultsOf params X.aC=([],[])
 bind:∀(qual:Str)(cz:List (Str×Addr))(pm cd wg u:aq),bindArgs (kla_fn "<lambda>" qual params body scope cz pm cd wg) ⟨[u],[]⟩=pure [(p,u)]
theorem jn.sc{X:Cx}{p:Str}{fr:List Str}{ix:List Nat}{params:nB}{body:Expr}{scope:fz}{cz:List (Str×Addr)}(T:jn X p fr ix params body scope)
  (c1:∀x c,cz.lookup x=some c ->X.aC.cells.lookup x=some c) (c2:∀x c,x∈fr ->X.aC.cells.lookup x=some c ->cz.lookup x=some c):BX X p fr ix scope cz:=
 ⟨T.kind,T.co,T.gen,T.z6,T.K0,T.free,T.all,T.len,c1,c2⟩
theorem jn.has{X:Cx}{p:Str}{fr:List Str}{ix:List Nat}{params:nB}{body:Expr}{scope:fz}(T:jn X p fr ix params body scope){pins:List (Addr×Obj)}{σ:St}{H:Hp}{s:ap}(I:aZ X pins σ H s):
  ∀y∈fr,∃c,X.aC.cells.lookup y=some c:=λ y hy=>by
 obtain⟨j,hj,ej⟩:=gG hy;obtain⟨_,i,_,_,hk⟩:=T.free j y (by rw[<-ej];simp[hj]);exact I.ok.has y hk
def cX(P:Addr)(H H':Hp):Prop:=∀b o,H b=some o ->b≠P ->H' b=some o
theorem cX.trans{P:Addr}{H H1 H2:Hp}(a:cX P H H1)(b:cX P H1 H2):cX P H H2:=λ c o h n=>b c o (a c o h n) n
theorem cX.ph{P:Addr}{H H1 H2:Hp}(a:cX P H H1)(b:ae H1 H2):cX P H H2:=λ c o h n=>b c o (a c o h n)
theorem qj.ph{H H':Hp}{P:Addr}{qual:Str}(h:qj H P qual)(e:ae H H'):qj H' P qual:=let⟨tr,a,b⟩:=h;⟨tr,e _ _ a,λ t ht=>e _ _ (b t ht)⟩
theorem qj.is{H:Hp}{P:Addr}{qual:Str}(h:qj H P qual):∃ps,H P=some (.tP ps):=let⟨_,a,_⟩:=h;⟨_,a⟩
theorem cX.seq{K:aE}{P:Addr}{H H':Hp}{a:Addr}{xs:List V}{ps:Array aq}(e:cX P H H')(hP:H P=some (.tP ps))(h:aP K H a xs):aP K H' a xs:=by
 rcases h with(h|⟨o,h⟩)|h
 .exact .inl (.inl (e _ _ h λ z=>by rw[z,hP]at h;cases h))
 .exact .inl (.inr ⟨o,e _ _ h λ z=>by rw[z,hP]at h;cases h⟩)
 .exact .inr h
section
variable{X:Cx}{α:Type}
theorem GL{σ:St}{A:cw}{p:Str}{fr:List Str}{ix:List Nat}{params:nB}{body:Expr}{scope:fz}{cz:List (Str×Addr)}{qual:Str}{pm wg:aq}{c' f:Addr}{te:TE}{k:Nat}
  (T:jn X p fr ix params body scope) (c1:∀x c,cz.lookup x=some c ->X.aC.cells.lookup x=some c) (c2:∀x c,x∈fr ->X.aC.cells.lookup x=some c ->cz.lookup x=some c) (hr:dR (k+1) A) (hA:A.frames=some X.stack)
  (k8:∀(s:ap)(H:Hp),PE (qZ X (p::fr) qual scope f (.ref c') cz A s H) body te):
  re X σ A f (kla_obj "<lambda>" qual params body scope cz pm c' wg) (λ x H Q=>te (some x::q_ σ ix) H Q) (λ H=>H c'=some (qY c' qual)):=by
 intro pins s H x u Q hp hc I rx h;exact Qw I (T.sc c1 c2) (I.tR _ (ij _ hp)).1 (I.db _ _ hc).1 (T.bind _ _ _ _ _ _) hr hA rx (k8 s H) h
theorem Lz(k:IG X .Lt α){A:cw}{pins:List (Addr×Obj)}{σ:St}{H1:Hp}{l f:Addr}{fo:Obj}{xs:List V}{ks:List α}{kr:V ->Hp ->VK ->Prop}{Ok:Hp ->Prop}{d:V}{du:aq}{s:ap}{Q:aq ->ap ->Prop}{E:aq ->ap ->Prop}
  (hh:A.handled=none) (hu:A.units+1<cLine) (ud:∀H,ae H1 H ->Ok H) (Eo:(f,fo)∈pins) (hl:aP X.K H1 l xs) (bH:ks.length=xs.length) (rd:bT d du)
  (kc:re X σ A.in1 f fo kr Ok)
  (kx:∀(i:Nat)(x:V)(a:α)(H2:Hp),xs[i]?=some x ->ks[i]?=some a ->ae H1 H2 ->kr x H2 λ v H3=>k.ok H3 v a/\ae H2 H3)
  (I0:aZ X pins σ H1 s)
  (hQ:∀(H':Hp)(s':ap)(v:V)(u:aq),aZ X pins σ H' s' ->ae H1 H' ->(match ks.zip xs with|[]=>v=d|b::r=>v=(pick k.lt b r).2) ->bT v u ->Q u s'):
  wpAny (model X.prog X.w) A (call (.builtin "min") [.ref l] [(cZ "key",.ref f),(cZ "default",du)]) Q E s:=by
 have nV:(toString "min"++toString ".loop":String)="min.loop":=by decide
 obtain⟨bb,rv,pl,hz⟩:=I0.list hl;have Zb:=pl.isList;have Qz:l<s.heap.objs.size:=pl.lt;have Lx:l≠s.heap.objs.size:=jj Qz;refine kmk_tree PySem.F.kind_min PySem.F.plain_min PySem.F.entry_min (B1 _ _ _) ?_;show wpAny _ A.in1 (LA "min" ["key","default"] 0 ⟨[],[(cZ "key",.ref f),(cZ "default",du)]⟩>>=_) _ _ s;refine az (B2 (show LA "min" ["key","default"] 0 ⟨[],[(cZ "key",.ref f),(cZ "default",du)]⟩=pure [some (.ref f),some du] from rfl) ?_);refine az (bY ?_);refine az (Im Zb ?_);refine az (LB ?_ (ia _));rw[nV];refine bY ⟨wj yT _,?_⟩;generalize hG:(s.heap.push {cls:=.type "list_iterator",data:=.fields #[.ref l,.int 0 0]}).push (seqObj "list" #[] 0)=g;have Tj:(s.heap.push {cls:=.type "list_iterator",data:=.fields #[.ref l,.int 0 0]}).objs.size=s.heap.objs.size+1:=GN ..;rw[Tj];have kg:∀b o,s.heap.get? b=some o ->g.get? b=some o:=λ b o e=>by rw[<-hG];exact cf _ (cf _ e)
 have gI:g.get? s.heap.objs.size=some {cls:=.type "list_iterator",data:=.fields #[.ref l,.int 0 0]}:=by rw[<-hG];exact cf _ (fN _ rfl)
 have gS:g.get? (s.heap.objs.size+1)=some (seqObj "list" #[] 0):=by rw[<-hG,<-Tj];exact fN _ rfl
 have I1:=I0.fw (t':=s.toks) kg;have fI:fA X pins H1 s.heap.objs.size:=I0.qe (ci _) (I0.db.fresh (ci _));have fS:fA X pins H1 (s.heap.objs.size+1):=I0.qe (t8 _) (I0.db.fresh (t8 _));have Et:s.heap.objs.size+1≠s.heap.objs.size:=S6 _;have eG:g.IsListIter s.heap.objs.size l 0:=⟨_,gI,rfl,rfl⟩;have W:=v0 (prog:=X.prog) (w:=X.w) (A:=A.in1) hh s.heap.objs.size l Lx bb.toArray;have hsz:bb.toArray.size=xs.length:=by rw[cV,<-rv.length]
 have LC:g.IsList l bb.toArray:=by
  obtain⟨o,e,r⟩:=Zb;exact⟨o,kg _ _ e,r⟩
 refine yS Tg ?_;rw[BY yT _];show wpAny _ A.in1 (seqItems? (.ref _)>>=_) _ _ _;refine az (iM gS rfl ?_);show wpAny _ A.in1 (tryCatch (pyNext (.ref s.heap.objs.size)) _>>=_) _ _ _;cases Zc:ks.zip xs with
 |nil=>
  have VA:xs.length=0:=by
   have h1:=congrArg nA Zc;rw[GG,bH,Ly]at h1;exact h1
  refine az (nW (W.done _ _ _ ⟨by rw[hsz,VA];exact eG,LC⟩ λ h' yd gj=>?_));have I2:=I1.dq (t':=yd) (ch:=[s.heap.objs.size]) gj (λ b hb=>by rw[cW.mp hb];exact fI);show wpAny _ A.in1 (rule _>>=_) _ _ _;refine az (pN (bY ?_));exact hQ H1 _ d du I2 (ae.refl _) (by rw[Zc]) rd
 |cons b0 cC=>
  obtain⟨a,x⟩:=b0;have hz0:(ks.zip xs)[0]?=some (a,x):=by rw[Zc];rfl
  have Pq:ks[0]?=some a/\xs[0]?=some x:=by
   rw[GJ]at hz0;exact hz0
  have dC:0<xs.length:=(gM.mp Pq.2).1;refine az (nW (W.item 0 _ _ _ (by rw[hsz];exact dC) ⟨eG,LC⟩ λ v h' yd hP B0 gj=>?_));have Y9:bT x v:=by
   obtain⟨u,Th,ru⟩:=rv.get Pq.2;have e:bb[0]?=some v:=by simpa using hP
   rw[e]at Th;cases Th;exact ru
  obtain⟨Ti,Vz,UW,Xk⟩:=id B0.1;have I2:=I1.dq (t':=yd) (ch:=[s.heap.objs.size]) gj (λ b hb=>by rw[cW.mp hb];exact fI);have GH:=gj (s.heap.objs.size+1) _ (by simpa using Et) gS;have I3:aZ X (pins++[(s.heap.objs.size,Ti),(s.heap.objs.size+1,seqObj "list" #[] 0)]) σ H1 {s with heap:=h',toks:=yd}:=I2.lH λ p hp=>by
   rcases kX.mp hp with q|q
   .exact I2.tR p (ij _ q)
   .rcases eB.mp q with rfl|q
    .exact⟨Vz,fI.1,fI.2.1,fI.2.2.1,λ v z=>by rw[Xk]at z;cases z⟩
    .rw[cW.mp q];exact⟨GH,fS.1,fS.2.1,fS.2.2.1,λ v z=>by cases z⟩
  show wpAny _ A.in1 (tryCatch (holding [v] (call (.ref f) [v])) _>>=_) _ _ _;refine az (nW (uS (o_ (kc _ _ H1 x v _ (Py _ Eo) (ud H1 (ae.refl _)) I3 Y9 (kx 0 x a H1 Pq.2 Pq.1 (ae.refl _))) (λ y s3 he=>?_) λ _ _ hF=>hF.elim)));obtain⟨kv2,H3,I4,rk2,Xl,Y_⟩:=he;have pI:=I4.tR (s.heap.objs.size,Ti) (ij _ (ij _ (.head _)));have pS:=I4.tR (s.heap.objs.size+1,seqObj "list" #[] 0) (ij _ (ij _ (.tail _ (.head _))));have I5:aZ X pins σ H3 s3:=I4.gT;have fi3:fA X pins H3 s.heap.objs.size:=fI.more pI.2.1;have Xm:fA X pins H3 (s.heap.objs.size+1):=fS.more pS.2.1;have s1:=nX s3.heap (s.heap.objs.size+1) (dN λ _=>#[v,y]);obtain⟨c2,Gk⟩:∃c2,(s3.heap.update (s.heap.objs.size+1) (dN λ _=>#[v,y])).get? (s.heap.objs.size+1)=some (seqObj "list" #[v,y] c2):=⟨_,yU pS.1 λ _=>#[v,y]⟩;show wpAny _ A.in1 (updateSeq (s.heap.objs.size+1) (λ _=>#[v,y])>>=_) _ _ _;refine az ?_;refine BZ pS.1 rfl ?_;rw[nV];have I6:=I5.dq (t':=s3.toks) (ch:=[s.heap.objs.size+1]) (λ b o hb e=>(s1.2 b (by simpa using hb)).trans e) (λ b hb=>by rw[cW.mp hb];exact Xm);have Kq:(ks.zip xs).drop 1=cC:=by rw[Zc];rfl
  refine bY ⟨wj yT _,Lw k hh hu ud Eo hl bH Et Lx kc kx cC 1 H3 _ (a,x) v y kv2 c2 (λ H' s' u i1 i2 i3=>?_) Kq dC ⟨I6,Y_,fi3,Xm⟩ ⟨Ti,(s1.2 _ Et.symm).trans pI.1,UW,Xk⟩ Gk Y9 rk2 Xl⟩;exact hQ H' s' _ u i1 i2 (by rw[Zc]) i3
def VB(R:V ->Hp ->Prop):List V ->Hp ->Prop
 |[x],H=>R x H
 |_,_=>False
def Eu(K:aE)(P:Addr)(qual:Str){X:Cx}(k:IG X .Lt α)(ix:List Nat)(tb:TE)(d:V)(σ:St)(Q:VK):V ->Hp ->Prop:=λ x H1=>∃(l:Addr)(xs:List V)(ks:List α),x=.ref l/\aP K H1 l xs/\ks.length=xs.length/\qj H1 P qual/\
 (∀(i:Nat)(y:V)(a:α)(H2:Hp),xs[i]?=some y ->ks[i]?=some a ->cX P H1 H2 ->qj H2 P qual ->tb (some y::q_ σ ix) H2 λ v H3=>k.ok H3 v a/\ae H2 H3)/\
 ∀(H2:Hp)(v:V),cX P H1 H2 ->qj H2 P qual ->(match ks.zip xs with|[]=>v=d|b::r=>v=(pick k.lt b r).2) ->Q v H2
def VC(K:aE)(P:Addr)(qual:Str){X:Cx}(k:IG X .Lt α)(ix:List Nat)(te tb:TE)(d:V):TE:=λ σ H Q=>te σ H (Eu K P qual k ix tb d σ Q)
theorem B3(k:IG X .Lt α){P:Addr}{p:Str}{fr:List Str}{ix:List Nat}{params:nB}{body e ed:Expr}{scope:fz}{pd pos pn kp1 kp2:Pos}{te tb:TE}{d:V}{n:Nat}
  (LD:X.mS=true) (hr:dR (n+2) X.A) (hg:Gl X "min") (hm:X.mg "min"=none) (hh:BV X.K X.mg X.base X.aC.code P) (T:jn X p fr ix params body scope) (he:PE X e te) (hd:PE X ed (tC d))
  (k8:∀(f:Addr)(cd:aq)(cz:List (Str×Addr))(s:ap)(H:Hp),PE (qZ X (p::fr) (X.aC.qual++"<lambda>") scope f cd cz X.A.in1 s H) body tb)
  (hs:starEach [e] X.aC=[(false,eval e X.aC)]:=by rfl):
  PE X (.Call (.Name "min" pn) [e] [⟨some "key",.Lambda params body scope pd,kp1⟩,⟨some "default",ed,kp2⟩] pos) (VC X.K P (X.aC.qual++"<lambda>") k ix te tb d):=by
 intro pins s σ H Q I h;refine qJ (jC I hg hm (show bootBuiltins "min"=some (.builtin "min") by decide+kernel) ?_);refine Tl (dQ ((aO he (by rw[hs];rfl)) pos pins s σ H (VB (Eu X.K P (X.aC.qual++"<lambda>") k ix tb d σ Q)) I h) λ us s1 ⟨vs,H1,I1,r,q⟩=>?_) (by rw[hs];rfl) (by rw[hs];rfl);cases r with
 |nil=>exact jZ q
 |@cons x0 u0 _ _ rl rr=>
  cases rr with
  |cons _ _=>exact jZ q
  |nil=>
   have q:Eu X.K P (X.aC.qual++"<lambda>") k ix tb d σ Q x0 H1:=q;obtain⟨l,xs,ks,ex,hl,bH,hT,hkx,hq⟩:=q;subst ex;cases rl;obtain⟨cz,zX,c1,c2⟩:=T.cl (T.has I1);refine B4 (BW I1 hh hT zX T.dflt λ f c' wg s2 H2 I2 T2 sp hfo UV Zd hcr hcx=>?_);have fF:=I1.qe (H':=H2) UV Zd;have I2p:aZ X (pins++[(f,kla_obj "<lambda>" (X.aC.qual++"<lambda>") params body scope cz ((X.mg "__name__").getD .none) c' wg)]) σ H2 s2:=I2.lH λ p hp=>by
    rcases kX.mp hp with q|q
    .exact I2.tR p (ij _ q)
    .rw[cW.mp q];exact⟨hfo,Zd,fF.2.1,fF.2.2.1,λ v z=>by cases z⟩
   refine B4 (dQ (hd _ s2 σ H2 _ I2p (show tC d σ H2 (λ v H'=>v=d/\H'=H2) from⟨rfl,rfl⟩)) λ du s3 ⟨dv,H3,I3,rd,edv,eH⟩=>?_);subst edv;subst eH;refine GO ?_;obtain⟨ps,Ze⟩:=hT.is;have mX:aP X.K H3 l xs:=cX.seq sp Ze hl;show wpAny _ X.A (call (.builtin "min") [.ref l] [(cZ "key",.ref f),(cZ "default",du)]) _ _ s3;have IH:dR (n+1) X.A.in1:=hr.in1;refine Lz k (A:=X.A) (I.ok.hd LD) (li (Zf (by decide:1<=64) _) hr.units) (Ok:=λ H=>H c'=some (qY c' (X.aC.qual++"<lambda>"))) (λ H e=>e _ _ hcx) (ij _ (.head _)) mX bH rd
    (GL (k:=n) T c1 c2 IH (show X.A.in1.frames=some X.stack from I.ok.frames) λ s H=>k8 f (.ref c') cz s H) (λ i x a H4 e1 e2 e3=>hkx i x a H4 e1 e2 (cX.ph sp e3) (T2.ph e3)) I3 ?_
   intro H5 s5 v u I5 Zg hv rv;exact⟨v,H5,I5.gT,rv,hq H5 v (cX.ph sp Zg) (T2.ph Zg) hv⟩
end
def gQ(ns:List Int):List (Int⊕List Nat):=ns.map Pj
theorem iC:∀ns ms:List Int,GP ue (gQ ns) (gQ ms)=HT.lexLt ns ms
 |[],[]=>rfl
 |[],_::_=>rfl
 |_::_,[]=>rfl
 |x::xs,y::ys=>by
  have ih:=iC xs ys;show(decide (x<y)||(!decide (y<x)&&GP ue (gQ xs) (gQ ys)))=(if x=y then HT.lexLt xs ys else decide (x<y));rw[ih];by_cases e:x=y
  .subst e;simp
  .rw[ao e];by_cases l:x<y
   .simp[l]
   .have l2:y<x:=by omega
    simp[l,l2]
theorem GQ:∀{ns ms:List Int},gQ ns=gQ ms ->ns=ms
 |[],[],_=>rfl
 |[],_::_,h=>by cases h
 |_::_,[],h=>by cases h
 |x::xs,y::ys,h=>by
  obtain⟨h1,h2⟩:=Tc h;rw[QZ6 h1,GQ h2]
theorem sO:MS.Ord HT.lexLt where
 irrefl:=λ a=>by rw[<-iC];exact(LF ue).irrefl _
 trans:=λ a b c h1 h2=>by
  rw[<-iC]at h1 h2⊢;exact(LF ue).trans _ _ _ h1 h2
 neg:=λ a b c h=>by
  rw[<-iC]at h;rw[<-iC a b,<-iC b c];exact(LF ue).negTrans _ _ _ h
 total:=λ a b h1 h2=>by
  rw[<-iC]at h1 h2;exact GQ ((LF ue).total _ _ h1 h2)
section
variable{X:Cx}{pins:List (Addr×Obj)}{σ:St}{H:Hp}{s:ap}
theorem aZ.Zh{b:Addr}{o:HO}(I:aZ X pins σ H s)(f:fA X pins H b)(new:gm X.prog X.w (aS H b o) s.heap b o):aZ X pins σ (aS H b o) s:=by
 obtain⟨f0,f1,f2,f3,f4,f5⟩:=f;have hT:∀c u,H c=some u ->aS H b o c=some u:=λ c u e=>by rw[ag (aM e f0)];exact e
 refine⟨I.ok,I.os,I.jk,⟨I.base.keep,I.base.slot,λ c u e n hx=>?_,I.base.there,λ c xs e=>hT _ _ (I.base.zF c xs e),λ c u v e=>hT _ _ (I.base.xX c u v e),λ c ps e=>?_⟩,I.Bb,I.cell,?_,λ x c e=>?_,λ p hp=>?_,λ c u e=>?_,I.len⟩
 .have:c≠b:=λ z=>by
   subst z;rcases f3 with q|q
   .exact hx q
   .exact absurd (iY (dB e) q) (vI _)
  rw[ag this];exact I.base.free c u e n hx
 .obtain⟨m,q⟩:=I.base.xY c ps e;exact⟨m,hT _ _ q⟩
 .rw[ag (qb f1)];exact I.free
 .rw[ag (f4 x c e)];exact I.kW x c e
 .obtain⟨a1,a2,a3⟩:=I.tR p hp;exact⟨a1,by rw[ag (f5 p hp)];exact a2,a3⟩
 .by_cases hb:c=b
  .subst hb;rw[aa]at e;cases e;exact new
  .rw[ag hb]at e;exact(I.db c u e).sA (λ _ _ _ q=>q) (λ d q=>hT _ _ q) λ d xs q=>hT _ _ q
end
abbrev ll(X:Cx)(H:Hp):List V ->List (List Int) ->Prop:=Kl (uc X H)
theorem ll.bI{X:Cx}{H H':Hp}(e:ae H H'):∀{vs:List V}{ks:List (List Int)},ll X H vs ks ->ll X H' vs ks
 |_,_,.nil=>.nil
 |_,_,.cons ⟨p,a,b⟩ t=>.cons ⟨p,a,e.fc b⟩ (ll.bI e t)
theorem ll.snoc{X:Cx}{H:Hp}{v:V}{a:List Int}(h:uc X H v a):∀{vs:List V}{ks:List (List Int)},ll X H vs ks ->ll X H (vs++[v]) (ks++[a])
 |_,_,.nil=>.cons h .nil
 |_,_,.cons q t=>.cons q (ll.snoc h t)
theorem pO:∀{us:List aq}{ns:List Int}(i:Nat),i7 us ns ->Tn (λ _=>false) i us=some (gQ ns)
 |_,_,_,.nil=>rfl
 |_,_,i,.cons n t h=>by
  show(if(false=true)then none else(Tn (λ _=>false) (i+1) _).map (Pj n::·))=_;rw[ao aL,pO (i+1) h];rfl
theorem II{us:List aq}{n:Int}{ns:List Int}(h:i7 us (n::ns)):∃t,us[0]?=some (.int n t):=by
 cases h with
 |cons _ t _=>exact⟨t,rfl⟩
section
variable{X:Cx}{pins:List (Addr×Obj)}{σ:St}{H:Hp}{s:ap}
theorem QA(I:aZ X pins σ H s){v:V}{u:aq}{ns:List Int}(r:bT v u)(h:uc X H v ns):lm s.heap (λ _=>false) u=some (gQ ns):=by
 obtain⟨p,rfl,hs⟩:=h;cases r;obtain⟨bb,rv,⟨o,ho,hc,n,hd⟩,_⟩:=I.tuple hs;have hi:i7 bb ns:=by simpa using lK rv
 unfold lm;rw[au (by show(match s.heap.get? p with|some o=>(match o.cls with|.type n=>n=="tuple"|_=>false)|none=>false)=true;rw[ho];simp[hc])];show(match s.heap.get? p with|some o=>(match o.data with|.seq xs _=>Tn (λ _=>false) 0 xs.toList|_=>none)|none=>none)=_;rw[ho];simp only[hd];exact pO 0 hi
theorem IJ(I:aZ X pins σ H s){v:V}{u:aq}{n:Int}{ns:List Int}(r:bT v u)(h:uc X H v (n::ns)):∃f,PyProof.Rows.TupOf s.heap (λ _=>false) u f:=by
 obtain⟨p,rfl,hs⟩:=h;cases r;obtain⟨bb,rv,⟨o,ho,hc,m,hd⟩,_⟩:=I.tuple hs;have hi:i7 bb (n::ns):=by simpa using lK rv
 obtain⟨t,ht⟩:=II hi;exact⟨.int n t,p,o,bb.toArray,m,rfl,ho,hc,hd,by simpa using ht,λ _=>⟨n,t,rfl⟩,λ z=>by cases z⟩
end
abbrev kT(h:Heap):PyProof.Rows.KeyKind:=adH h (λ _=>false)
def Pr(h:Heap)(p:aq×aq):List Int×V:=(((lm h (λ _=>false) p.1).getD []).filterMap (λ x=>match x with|.inl n=>some n|.inr _=>none),(U2 p.2).getD .bu)
theorem LG:∀ns:List Int,(gQ ns).filterMap (λ x=>match x with|Pj n=>some n|UM _=>none)=ns
 |[]=>rfl
 |n::r=>by
  show(List.filterMap _ (Pj n::gQ r))=_;rw[Bp];simp only;rw[LG r]
theorem LH{X:Cx}{pins:List (Addr×Obj)}{σ:St}{H:Hp}{s:ap}(I:aZ X pins σ H s):∀{kU:List V}{LI:List aq}{ks:List (List Int)}{xs:List V}{us:List aq},bv kU LI ->ll X H kU ks ->bv xs us ->
  (LI.zip us).map (Pr s.heap)=ks.zip xs/\∀p∈LI.zip us,∃ns,lm s.heap (λ _=>false) p.1=some (gQ ns)
 |_,_,_,_,_,.nil,.nil,_=>⟨rfl,λ p hp=>by simp at hp⟩
 |_,_,_,_,_,.cons _ _,.cons _ _,.nil=>⟨rfl,λ p hp=>by simp at hp⟩
 |_,_,_,_,_,.cons r1 t1,.cons k1 u1,.cons q1 v1=>by
  obtain⟨h1,h2⟩:=LH I t1 u1 v1;have e:=QA I r1 k1;refine⟨?_,λ p hp=>?_⟩
  .rw[Gj,dW,h1,Gj];congr 1;unfold Pr;rw[e,q1.abs];show((gQ _).filterMap _,_)=_;rw[LG];rfl
  .rw[Gj]at hp;rcases eB.mp hp with rfl|hp
   .exact⟨_,e⟩
   .exact h2 p hp
theorem Ev{h:Heap}{p:aq×aq}{ns:List Int}(e:lm h (λ _=>false) p.1=some (gQ ns)):(Pr h p).1=ns:=by
 unfold Pr;rw[e];exact LG ns
theorem QB{h:Heap}{p:aq×aq}{ns c:List Int}(e:lm h (λ _=>false) p.1=some (gQ ns)):Zi (kT h) (gQ c) p=MS.same HT.lexLt c (Pr h p):=by
 have e':(kT h).keyOf p.1=some (gQ ns):=e;unfold Zi MS.same;rw[Ev e,e'];show(!GP ue (gQ ns) (gQ c)&& !GP ue (gQ c) (gQ ns))=_;rw[iC,iC]
theorem LJ{h:Heap}{LI us:List aq}{ks:List (List Int)}{xs:List V}{Be:Array Keyed}(hz:(LI.zip us).map (Pr h)=ks.zip xs)(hk:∀p∈LI.zip us,∃ns,lm h (λ _=>false) p.1=some (gQ ns))
  (hp:Be.toList.Perm (LI.zip us)) (hs:To (kT h) Be Be.size) (vo:∀c,yV (kT h) c Be.toList=yV (kT h) c (LI.zip us)):
  Be.toList.map (Pr h)=MS.eI HT.lexLt (ks.zip xs):=by
 have DP:∀p∈Be.toList,∃ns,lm h (λ _=>false) p.1=some (gQ ns):=λ p hm=>hk p (hp.mem_iff.mp hm)
 refine MS.BS sO ?_ λ c=>?_
 .rw[MS.jI,Zj,Zk];intro i j hi hj hij;have uV:i<Be.size:=by simpa using hi
  have z7:j<Be.size:=by simpa using hj
  have q:GP ue (B5 (kT h) Be j) (B5 (kT h) Be i)=false:=hs i j (Ie hij) z7;obtain⟨n1,e1⟩:=DP Be.toList[i] (gH hi);obtain⟨n2,e2⟩:=DP Be.toList[j] (gH hj);have f1:B5 (kT h) Be i=gQ n1:=by
   unfold B5;rw[Zl uV];show((lm h (λ _=>false) (Be[i]).1).getD [])=_;have e1':lm h (λ _=>false) (Be[i]).1=some (gQ n1):=by simpa using e1
   rw[e1'];rfl
  have f2:B5 (kT h) Be j=gQ n2:=by
   unfold B5;rw[Zl z7];show((lm h (λ _=>false) (Be[j]).1).getD [])=_;have e2':lm h (λ _=>false) (Be[j]).1=some (gQ n2):=by simpa using e2
   rw[e2'];rfl
  rw[f1,f2,iC]at q;rw[Ev e1,Ev e2];exact q
 .rw[<-hz,mw,mw];have Zm:∀l:List (aq×aq),(∀p∈l,∃ns,lm h (λ _=>false) p.1=some (gQ ns)) ->l.filter (MS.same HT.lexLt c∘Pr h)=yV (kT h) (gQ c) l:=λ l hl=>by
   unfold yV;refine B6 λ p hm=>?_
   obtain⟨ns,e⟩:=hl p hm;exact(QB e).symm
  rw[Zm _ DP,Zm _ hk,vo (gQ c)]
theorem B7{X:Cx}{H:Hp}{h:Heap}:∀{l:List (aq×aq)},(∀p∈l,∃v,bT v p.2) ->bv (l.map λ p=>(Pr h p).2) (l.map (·.2))
 |[],_=>.nil
 |p::r,hl=>by
  obtain⟨v,hv⟩:=hl p fM;refine .cons ?_ (B7 (X:=X) (H:=H) λ q hq=>hl q (ff _ hq));show bT ((U2 p.2).getD .bu) p.2;rw[hv.abs];exact hv
theorem GR{X:Cx}{pins:List (Addr×Obj)}{σ:St}{H:Hp}{s:ap}(I:aZ X pins σ H s):∀{kU:List V}{LI:List aq}{ks:List (List Int)},bv kU LI ->ll X H kU ks ->(∀k∈ks,k≠[]) ->∃fs,PyProof.Rows.TupsOf s.heap (λ _=>false) LI fs
 |_,_,_,.nil,.nil,_=>⟨[],.nil⟩
 |_,_,a::ks,.cons r1 t1,.cons k1 u1,hn=>by
  obtain⟨fs,h⟩:=GR I t1 u1 λ k hk=>hn k (ff _ hk)
  match a,hn a fM,k1 with
  |[],h0,_=>exact absurd rfl h0
  |n::ns,_,k1=>
   obtain⟨f,hf⟩:=IJ I r1 k1;exact⟨f::fs,.cons hf h⟩
section
variable{X:Cx}
theorem yW{A:cw}{pins:List (Addr×Obj)}{σ:St}{H:Hp}{s:ap}{a kS:Addr}{e e1:Nat}{gR:Array aq}{st:SortSt}{us:List aq}{ks:List (List Int)}{xs:List V}{P:GS ->ap ->Prop}{E:aq ->ap ->Prop}
  (I:aZ X pins σ H s) (fa:fA X pins H a) (fk:fA X pins H kS) (DP:kS≠a) (ho:s.heap.get? a=some (seqObj "list" #[] e1)) (hk:s.heap.get? kS=some (seqObj "list" gR e)) (bH:ks.length=xs.length) (hZ:xs.length<=sizeLine) (Xn:gR.size=xs.length) (Xo:us.length=xs.length) (rv:bv xs us)
  (hz:(gR.toList.zip us).map (Pr s.heap)=ks.zip xs) (Zn:∀p∈gR.toList.zip us,∃ns,lm s.heap (λ _=>false) p.1=some (gQ ns))
  (hp:(arrOf st).toList.Perm (gR.toList.zip us)) (hs:To (kT s.heap) (arrOf st) (arrOf st).size) (vo:∀c,yV (kT s.heap) c (arrOf st).toList=yV (kT s.heap) c (gR.toList.zip us)) (hfl:failedOf st=none)
  (h:∀s',aZ X pins σ (aS H a (.aD ((MS.eI HT.lexLt (ks.zip xs)).map (·.2)))) s' ->P (.done (.ret .none)) s'):
  wpAny (model X.prog X.w) A (ksk_tail a false e1 (.ref kS) st) P E s:=by
 have hZ2:=hZ;rw[F_]at hZ2;have B8:=LJ hz Zn hp hs vo;have Zo:(arrOf st).size=xs.length:=by
  have h1:=hp.length_eq;rw[zH,GG,zH,Xn,Xo,Ly]at h1;exact h1
 have s1:=nX s.heap kS (dN λ _=>(#[]:Array aq));have Xp:(s.heap.update kS (dN λ _=>(#[]:Array aq))).get? a=some (seqObj "list" #[] e1):=(s1.2 a DP.symm).trans ho;obtain⟨Gr,hO⟩:∃Gr:Array aq,(arrOf st).map (λ p=>p.2)=Gr:=⟨_,rfl⟩;have hOs:Gr.size=xs.length:=by rw[<-hO,Array.size_map,Zo]
 have s2:=nX (s.heap.update kS (dN λ _=>(#[]:Array aq))) a (dN λ _=>Gr);have Gk:=yU Xp λ _=>Gr
 unfold ksk_tail
 try dsimp only
 rw[hO];refine az (LK hk rfl ?_ (by rw[Xn];exact hZ) (ia _));refine az (mr ?_);refine az (seqEpoch_at Xp rfl ?_);refine az (LK Xp rfl ?_ (ia _) (by show Gr.size<=_;rw[hOs,F_];omega));rw[hfl];simp only[bne_self_eq_false,v6,pH];refine bY (h _ ?_);have I1:=I.dq (t':=s.toks) (ch:=[kS]) (λ b o hb q=>(s1.2 b (by simpa using hb)).trans q) (λ b hb=>by rw[cW.mp hb];exact fk);have I2:=I1.dq (t':=s.toks) (ch:=[a]) (λ b o hb q=>(s2.2 b (by simpa using hb)).trans q) (λ b hb=>by rw[cW.mp hb];exact fa);refine I2.Zh fa ⟨?_,Gr.toList,_,?_,Gk⟩
 .rw[ak];rw[<-B8,ak,zH,Zo];exact hZ
 .rw[<-B8,bB,<-hO,Array.toList_map];refine B7 (X:=X) (H:=H) λ p hm=>?_
  have DQ:=hp.mem_iff.mp hm;obtain⟨y,x⟩:=p;have VD:=(K4 DQ).2;obtain⟨i,hi,ei⟩:=gG VD;have hx:us[i]?=some x:=by rw[<-ei];simp[hi]
  have hi2:i<xs.length:=by omega
  obtain⟨u,hu,ru⟩:=rv.get (i:=i) (x:=xs[i]) (by simp[hi2]);rw[hx]at hu;cases hu;exact⟨_,ru⟩
theorem LL{A:cw}{pins:List (Addr×Obj)}{σ:St}{H:Hp}{s:ap}{a kS:Addr}{e e1:Nat}{gR:Array aq}{us:List aq}{kU:List V}{ks:List (List Int)}{xs:List V}{P:GS ->ap ->Prop}{E:aq ->ap ->Prop}
  (I:aZ X pins σ H s) (fa:fA X pins H a) (fk:fA X pins H kS) (DP:kS≠a) (ho:s.heap.get? a=some (seqObj "list" #[] e1)) (hk:s.heap.get? kS=some (seqObj "list" gR e)) (bH:ks.length=xs.length) (hZ:xs.length<=sizeLine) (rv:bv xs us)
  (rk:bv kU gR.toList) (kk:ll X H kU ks) (jD:∀k∈ks,k≠[])
  (h:∀s',aZ X pins σ (aS H a (.aD ((MS.eI HT.lexLt (ks.zip xs)).map (·.2)))) s' ->P (.done (.ret .none)) s'):
  wpAny (model X.prog X.w) A (ksk_end a false us.toArray e1 (.ref kS) gR) P E s:=by
 have Xo:us.length=xs.length:=rv.length.symm;have Xn:gR.size=xs.length:=by
  have h1:kU.length=gR.toList.length:=rk.length;have h2:kU.length=ks.length:=XM kk;have h3:gR.toList.length=gR.size:=zH;omega
 obtain⟨hz,Zn⟩:=LH I rk kk rv;have LM:(gR.zip us.toArray).toList=gR.toList.zip us:=ksk_zip gR us;have hzs:(gR.zip us.toArray).size=xs.length:=by rw[Array.size_zip,Xn,cV,Xo,Ly]
 unfold ksk_end
 try dsimp only
 simp only[v6,pH];by_cases h2:us.toArray.size<2
 .rw[au h2,au h2];refine az (bY ?_);rw[StateT.run_pure];refine az (bY ?_)
  try dsimp only
  refine yW (st:=Zp general' (gR.zip us.toArray) #[] 7 none) I fa fk DP ho hk bH hZ Xn Xo rv hz Zn (by show(gR.zip us.toArray).toList.Perm _;rw[LM]) ?_ (λ c=>by show yV _ c (gR.zip us.toArray).toList=_;rw[LM]) rfl h;intro i j hij hj;have sy:j<(gR.zip us.toArray).size:=hj;rw[cV]at h2;have:i=j:=by omega
  subst this;exact adI _
 .rw[ao h2,ao h2];rw[cV]at h2;obtain⟨fs,hfs⟩:=GR I rk kk jD;have hfl:0<fs.length:=by
   rw[adJ hfs,zH];omega
  have ek:gR=gR.toList.toArray:=by simp
  refine az ?_;have acR:PyProof.Rows.KeysOf (kT s.heap) (gR.zip us.toArray):=λ p hp=>by
   rw[LM]at hp;obtain⟨ns,q⟩:=Zn p hp;exact⟨_,q⟩
  rw[ek];refine PyProof.Rows.tup_kind (s:=s) hfl hfs ?_;rw[<-ek];refine az (o_ (adK (κ:=kT s.heap) (kd:=tuples' true) (a₀:=gR.zip us.toArray) (st:=Zp (tuples' true) (gR.zip us.toArray) #[] 7 none)
   (Q:=λ _ Ea=>(arrOf Ea).Perm (gR.zip us.toArray)/\failedOf Ea=none/\To (kT s.heap) (arrOf Ea) (gR.zip us.toArray).size/\PyProof.Rows.Stable (kT s.heap) (arrOf Ea) (gR.zip us.toArray))
   (adL true (adM _)) acR ⟨Array.Perm.refl _,rfl,rfl⟩ rfl (adN _) (by rw[hzs];omega) λ Ea a1 a2 a3 a4=>⟨a1,a2,a3,a4⟩) ?_ λ _ _ e=>e)
  rintro ⟨⟨⟩,Ea⟩ s' ⟨rfl,hp,hf,hs,vo⟩
  try dsimp only
  refine yW I fa fk DP ho hk bH hZ Xn Xo rv hz Zn (by rw[<-LM];exact Array.perm_iff_toList_perm.mp hp) (by rw[hp.size_eq];exact hs) (λ c=>by rw[<-LM];exact vo c) hf h
end
section
variable{X:Cx}
theorem IK{A:cw}{pins:List (Addr×Obj)}{σ:St}{H:Hp}{s:ap}{a kS f:Addr}{fo:Obj}{e1:Nat}{us:List aq}{ks:List (List Int)}{xs:List V}{kr:V ->Hp ->VK ->Prop}{Ok:Hp ->Prop}{P:GS ->ap ->Prop}{E:aq ->ap ->Prop}
  (I:aZ X pins σ H s) (fa:fA X pins H a) (fk:fA X pins H kS) (DP:kS≠a) (ho:s.heap.get? a=some (seqObj "list" #[] e1)) (hk:s.heap.get? kS=some (seqObj "list" #[] 0)) (bH:ks.length=xs.length) (hZ:xs.length<=sizeLine) (rv:bv xs us) (jD:∀k∈ks,k≠[])
  (ud:∀H',ae H H' ->Ok H') (Eo:(f,fo)∈pins) (kc:re X σ A f fo kr Ok)
  (kx:∀(i:Nat)(x:V)(a:List Int)(H2:Hp),xs[i]?=some x ->ks[i]?=some a ->ae H H2 ->kr x H2 λ v H3=>uc X H3 v a/\ae H2 H3)
  (h:∀s' H',aZ X pins σ (aS H' a (.aD ((MS.eI HT.lexLt (ks.zip xs)).map (·.2)))) s' ->ae H H' ->H' a=none ->P (.done (.ret .none)) s'):
  wpAny (model X.prog X.w) A (ksk_rest a (.ref f) false us.toArray e1 (.ref kS)) P E s:=by
 have Xo:us.length=xs.length:=rv.length.symm;unfold ksk_rest;refine az (pN ?_)
 first
  |rw[List.forIn_toArray]
  |(rw [<-Zq];simp only[List.toList_toArray])
  |rw[<-Zq]
 refine az (ksk_fold (λ i s'=>∃(H':Hp)(kA:Array aq)(e:Nat)(kU:List V),aZ X pins σ H' s'/\ae H H'/\H' a=none/\H' kS=none/\s'.heap.get? a=some (seqObj "list" #[] e1)/\s'.heap.get? kS=some (seqObj "list" kA e)/\bv kU kA.toList/\ll X H' kU (ks.take i)) us 0 s
  ⟨H,#[],0,[],I,ae.refl _,fa.1,fk.1,ho,hk,.nil,.nil⟩ ?step ?done)
 case step=>
  rintro j u s' hu ⟨H',kA,e,kU,I',sm,na,nk,vk,gj,rk,kk⟩
  simp only[LN]at kk⊢;have hj:j<us.length:=(gM.mp hu).1;have Y8:j<xs.length:=by omega
  obtain⟨b,hb⟩:∃b,ks[j]?=some b:=⟨_,ay ah⟩;obtain⟨x,hx⟩:∃x,xs[j]?=some x:=⟨_,ay Y8⟩;have rx:bT x u:=by
   obtain⟨u',Th,ru⟩:=rv.get hx;rw[hu]at Th;cases Th;exact ru
  have fa':=fa.more na;have fk':=fk.more nk;have hz:kA.size<=xs.length:=by
   have h1:kU.length=kA.toList.length:=rk.length;have h2:kU.length=(ks.take j).length:=XM kk;have h3:kA.toList.length=kA.size:=zH;rw[k7]at h2;omega
  have I2:aZ X (pins++[(a,seqObj "list" #[] e1),(kS,seqObj "list" kA e)]) σ H' s':=I'.lH λ p hp=>by
   rcases kX.mp hp with q|q
   .exact I'.tR p (ij _ q)
   .rcases eB.mp q with rfl|q
    .exact⟨vk,na,fa.2.1,fa.2.2.1,λ v z=>by cases z⟩
    .rw[cW.mp q];exact⟨gj,nk,fk.2.1,fk.2.2.1,λ v z=>by cases z⟩
  refine az (uf (o_ (kc _ _ H' x u _ (Py _ Eo) (ud H' sm) I2 rx (kx j x b H' hx hb sm)) (λ y s3 he=>?_) λ _ _ hF=>hF.elim));obtain⟨kv,H3,I3,rk3,hk3,Za⟩:=he
  try dsimp only
  have pa:=I3.tR (a,seqObj "list" #[] e1) (ij _ (ij _ (.head _)));have pk:=I3.tR (kS,seqObj "list" kA e) (ij _ (ij _ (.tail _ (.head _))));have I4:aZ X pins σ H3 s3:=I3.gT;have s1:=nX s3.heap kS (dN (·.push y));have Gk:=yU pk.1 (·.push y);have ek:ks.take (j+1)=ks.take j++[b]:=by rw[mz,hb];simp
  have ea:(kA.push y).toList=kA.toList++[y]:=by simp
  refine az (LK pk.1 rfl ?_ (fB hz hZ) (fB (Gc (Array.size_push ..)) (Nat.succ_le_succ (fB hz hZ))));have I5:=I4.dq (t':=s3.toks) (ch:=[kS]) (λ b o hb e=>(s1.2 b (by simpa using hb)).trans e) (λ b hb=>by rw[cW.mp hb];exact fk.more pk.2.1);refine bY ⟨rfl,H3,kA.push y,_,kU++[kv],I5,sm.trans Za,pa.2.1,pk.2.1,(s1.2 a DP.symm).trans pa.1,Gk,?_,?_⟩
  .rw[ea];exact rk.append (.cons rk3 .nil)
  .rw[ek];exact(kk.bI Za).snoc hk3
 case done=>
  rintro s' ⟨H',kA,e,kU,I',sm,na,nk,vk,gj,rk,kk⟩
  have kk':ll X H' kU ks:=by
   have e3:ks.take (0+us.length)=ks:=nG ah;rw[e3]at kk;exact kk
  try dsimp only
  refine az (listItems_at gj rfl ?_);exact LL I' (fa.more na) (fk.more nk) DP vk gj bH hZ rv rk kk' jD λ s3 I3=>h s3 H' I3 sm na
theorem B9{A:cw}{pins:List (Addr×Obj)}{σ:St}{H:Hp}{s:ap}{l f:Addr}{fo:Obj}{ks:List (List Int)}{xs:List V}{kr:V ->Hp ->VK ->Prop}{Ok:Hp ->Prop}{Q:aq ->ap ->Prop}{E:aq ->ap ->Prop}
  (I:aZ X pins σ H s) (hl:aP X.K H l xs) (bH:ks.length=xs.length) (jD:∀k∈ks,k≠[]) (ud:∀H',ae H H' ->Ok H') (Eo:(f,fo)∈pins) (kc:re X σ A.in1.in1 f fo kr Ok)
  (kx:∀(i:Nat)(x:V)(a:List Int)(H2:Hp),xs[i]?=some x ->ks[i]?=some a ->ae H H2 ->kr x H2 λ v H3=>uc X H3 v a/\ae H2 H3)
  (hQ:∀(s':ap)(H':Hp)(a:Addr),aZ X pins σ (aS H' a (.aD ((MS.eI HT.lexLt (ks.zip xs)).map (·.2)))) s' ->ae H H' ->H' a=none ->Q (.ref a) s'):
  wpAny (model X.prog X.w) A (call (.builtin "sorted") [.ref l] [(cZ "key",.ref f)]) Q E s:=by
 obtain⟨bb,rv,pl,hZ⟩:=I.list hl;have hL:bb.length<=sizeLine:=by rw[<-rv.length];exact hZ
 refine call_function_entry_kw kind_sorted plain_sorted entry_sorted (ksk_s1 _ _) ?_;unfold Builtin.«sorted»;refine az (m:=checkCount "sorted" 1 1 _) (bY ?_);refine az (collect_list pl.isList ?_ hL);refine az (LB ?_ hL);have hsz:((s.heap.push (seqObj "list" #[] 0)).update s.heap.objs.size (dN (·++bb.toArray))).objs.size=s.heap.objs.size+1:=by
  rw[Zr,GN]
 have keep:∀b o,s.heap.get? b=some o ->(((s.heap.push (seqObj "list" #[] 0)).update s.heap.objs.size (dN (·++bb.toArray))).push (seqObj "list" bb.toArray 0)).get? b=some o:=λ b o q=>by
  have dC:b<s.heap.objs.size:=dB q;rw[Zs _ _ _ (by rw[hsz];exact jj (Lk dC)),Heap.get?_update_ne _ _ _ _ (jj dC),Zs _ _ _ (jj dC)];exact q
 have SN:(((s.heap.push (seqObj "list" #[] 0)).update s.heap.objs.size (dN (·++bb.toArray))).push (seqObj "list" bb.toArray 0)).get? (s.heap.objs.size+1)=some (seqObj "list" bb.toArray 0):=by
  rw[<-hsz];exact fN _ rfl
 show wpAny _ _ _ _ _ {s with heap:=((s.heap.push (seqObj "list" #[] 0)).update s.heap.objs.size (dN (·++bb.toArray))).push (seqObj "list" bb.toArray 0)};rw[hsz];generalize hG:((s.heap.push (seqObj "list" #[] 0)).update s.heap.objs.size (dN (·++bb.toArray))).push (seqObj "list" bb.toArray 0)=g at keep SN;have I1:=I.fw (t':=s.toks) keep;have hgs:g.objs.size=s.heap.objs.size+2:=by rw[<-hG,GN,hsz]
 generalize hA:s.heap.objs.size+1=a at SN hgs⊢;have fa:fA X pins H a:=I.qe (by rw[<-hA];exact t8 _) (I.db.fresh (by rw[<-hA];exact t8 _));refine az (uS (wpAny_call_entry_kw slot_list_sort ⟨_,SN,rfl⟩ entry_list_sort ?body (ksk_l1 _ _)))
 case body=>
  show wpAny (model X.prog X.w) A.in1.in1 (Builtin.«list.sort» ⟨[.ref a],[(cZ "key",.ref f)]⟩) _ _ _;rw[ksk_t1];unfold ksk_tree;refine az (listItems_at SN rfl ?_);have s1:=nX g a (dN λ _=>(#[]:Array aq));have Bf:=yU SN λ _=>(#[]:Array aq)
  refine az (LK SN rfl ?_ (by rw[cV];exact hL) (ia _));refine az (seqEpoch_at Bf rfl ?_);generalize hE:(if(#[]:Array aq).size==bb.toArray.size then 0 else 0+1)=e1 at Bf⊢;refine az (Tq ?_ (by show bb.length<=_;exact hL));refine az (LB ?_ (ia _));refine uS ?_;have I2:=I1.dq (t':=s.toks) (ch:=[a]) (λ b o hb q=>(s1.2 b (by simpa using hb)).trans q) (λ b hb=>by rw[cW.mp hb];exact fa);have k2:∀b o,(g.update a (dN λ _=>(#[]:Array aq))).get? b=some o ->(((g.update a (dN λ _=>(#[]:Array aq))).push (seqObj "tuple" bb.toArray 0)).push (seqObj "list" #[] 0)).get? b=some o:=λ b o q=>cf _ (cf _ q)
  have I3:=I2.fw (t':=s.toks) k2;have hkS:((g.update a (dN λ _=>(#[]:Array aq))).push (seqObj "tuple" bb.toArray 0)).objs.size=a+2:=by rw[GN,Zr,hgs,<-hA]
  have hSo:(((g.update a (dN λ _=>(#[]:Array aq))).push (seqObj "tuple" bb.toArray 0)).push (seqObj "list" #[] 0)).get? (a+2)=some (seqObj "list" #[] 0):=by rw[<-hkS];exact fN _ rfl
  have yL:s.heap.objs.size<=a+2:=by omega
  have fk:fA X pins H (a+2):=I.qe yL (I.db.fresh yL);rw[hkS];refine IK (s:={s with heap:=((g.update a (dN λ _=>(#[]:Array aq))).push (seqObj "tuple" bb.toArray 0)).push (seqObj "list" #[] 0)}) I3 fa fk (show a+2≠a by omega) (k2 _ _ Bf) hSo bH hZ rv jD ud Eo kc kx λ s' H' I' sm na=>?_
  exact⟨_,rfl,bY ⟨_,rfl,hQ s' H' a I' sm na⟩⟩
def Ew(K:aE)(P:Addr)(qual:Str)(X:Cx)(ix:List Nat)(tb:TE)(σ:St)(Q:VK):V ->Hp ->Prop:=λ x H1=>∃(l:Addr)(xs:List V)(ks:List (List Int)),x=.ref l/\aP K H1 l xs/\ks.length=xs.length/\(∀k∈ks,k≠[])/\qj H1 P qual/\
 (∀(i:Nat)(y:V)(a:List Int)(H2:Hp),xs[i]?=some y ->ks[i]?=some a ->cX P H1 H2 ->qj H2 P qual ->tb (some y::q_ σ ix) H2 λ v H3=>uc X H3 v a/\ae H2 H3)/\
 ∀(H2:Hp)(p:Addr),cX P H1 H2 ->qj H2 P qual ->H2 p=none ->Q (.ref p) (aS H2 p (.aD ((MS.eI HT.lexLt (ks.zip xs)).map (·.2))))
def VE(K:aE)(P:Addr)(qual:Str)(X:Cx)(ix:List Nat)(te tb:TE):TE:=λ σ H Q=>te σ H (Ew K P qual X ix tb σ Q)
theorem B_{P:Addr}{p:Str}{fr:List Str}{ix:List Nat}{params:nB}{body e:Expr}{scope:fz}{pd pos pn kp1:Pos}{te tb:TE}{n:Nat}
  (hr:dR (n+3) X.A) (hg:Gl X "sorted") (hm:X.mg "sorted"=none) (hh:BV X.K X.mg X.base X.aC.code P) (T:jn X p fr ix params body scope) (he:PE X e te)
  (k8:∀(f:Addr)(cd:aq)(cz:List (Str×Addr))(s:ap)(H:Hp),PE (qZ X (p::fr) (X.aC.qual++"<lambda>") scope f cd cz X.A.in1.in1 s H) body tb)
  (hs:starEach [e] X.aC=[(false,eval e X.aC)]:=by rfl):
  PE X (.Call (.Name "sorted" pn) [e] [⟨some "key",.Lambda params body scope pd,kp1⟩] pos) (VE X.K P (X.aC.qual++"<lambda>") X ix te tb):=by
 intro pins s σ H Q I h;refine qJ (jC I hg hm (show bootBuiltins "sorted"=some (.builtin "sorted") by decide+kernel) ?_);refine Tl (dQ ((aO he (by rw[hs];rfl)) pos pins s σ H (VB (Ew X.K P (X.aC.qual++"<lambda>") X ix tb σ Q)) I h) λ us s1 ⟨vs,H1,I1,r,q⟩=>?_) (by rw[hs];rfl) (by rw[hs];rfl);cases r with
 |nil=>exact jZ q
 |@cons x0 u0 _ _ rl rr=>
  cases rr with
  |cons _ _=>exact jZ q
  |nil=>
   have q:Ew X.K P (X.aC.qual++"<lambda>") X ix tb σ Q x0 H1:=q;obtain⟨l,xs,ks,ex,hl,bH,jD,hT,hkx,hq⟩:=q;subst ex;cases rl;obtain⟨cz,zX,c1,c2⟩:=T.cl (T.has I1);refine B4 (BW I1 hh hT zX T.dflt λ f c' wg s2 H2 I2 T2 sp hfo UV Zd hcr hcx=>?_);have fF:=I1.qe (H':=H2) UV Zd;have I2p:aZ X (pins++[(f,kla_obj "<lambda>" (X.aC.qual++"<lambda>") params body scope cz ((X.mg "__name__").getD .none) c' wg)]) σ H2 s2:=I2.lH λ p hp=>by
    rcases kX.mp hp with q|q
    .exact I2.tR p (ij _ q)
    .rw[cW.mp q];exact⟨hfo,Zd,fF.2.1,fF.2.2.1,λ v z=>by cases z⟩
   refine GO ?_;obtain⟨ps,Ze⟩:=hT.is;have mX:aP X.K H2 l xs:=cX.seq sp Ze hl;show wpAny _ X.A (call (.builtin "sorted") [.ref l] [(cZ "key",.ref f)]) _ _ s2;have IH:dR (n+1) X.A.in1.in1:=hr.in1.in1;refine B9 (A:=X.A) I2p mX bH jD (Ok:=λ H=>H c'=some (qY c' (X.aC.qual++"<lambda>"))) (λ H e=>e _ _ hcx) (ij _ (.head _))
    (GL (k:=n) T c1 c2 IH (show X.A.in1.in1.frames=some X.stack from I.ok.frames) λ s H=>k8 f (.ref c') cz s H) (λ i x a H4 e1 e2 e3=>hkx i x a H4 e1 e2 (cX.ph sp e3) (T2.ph e3)) ?_
   intro s5 H5 a I5 Zg na;exact⟨.ref a,_,I5.gT,rfl,hq H5 a (cX.ph sp Zg) (T2.ph Zg) na⟩
end
end L2
namespace ZS
open PySem
open Sem (wp)
section
variable{prog:dz}{w:c9}{A:cw}{E:aq ->ap ->Prop}{s:ap}
theorem tCall(a b:aq):checkTypeCall "zip" ⟨[a,b],[(cZ "strict",.bool true)]⟩=pure ():=by kernel_rfl
theorem nCall(a b:aq):checkBuiltinCall "zip.__new__" ⟨[.type "zip",a,b],[(cZ "strict",.bool true)]⟩=pure ():=by kernel_rfl
theorem iArgs(a b c:aq):argsOk "object.__init__" ⟨[a,b,c],[(cZ "strict",.bool true)]⟩:=by
 unfold argsOk;rw[signature?_of (id:="object.__init__") (n:=['_', '_', 't', 'i', 'n', 'i', '_', '_']) (o:=['t', 'c', 'e', 'j', 'b', 'o']) (by kernel_rfl) F.owner_object];kernel_rfl
theorem callTypeK{T yX Ex:String}{Bn Bi:Builtin}{args:List aq}{kw:List (Str×aq)}{S:PySem.Spec}{Q Q1:aq ->ap ->Prop}(ft:TypeCalled T yX Ex)
  (hct:checkTypeCall T ⟨args,kw⟩=pure ()) (Ls:checkBuiltinCall yX ⟨.type T::args,kw⟩=pure ())
  (entryN:entryFor table yX=some Bn) (entryI:entryFor table Ex=some Bi) (g:BA (Bn ⟨.type T::args,kw⟩) S)
  (h:S A.in1 (wants Q1 E) s)
  (Zt:∀obj s1,Q1 obj s1 ->s1.TypeIs obj T/\argsOk Ex ⟨obj::args,kw⟩/\∃Si,BA (Bi ⟨obj::args,kw⟩) Si/\Si A.in1 (wants (λ r s2=>r=.none/\Q obj s2) E) s1):
  wpAny (model prog w) A (call (.type T) args kw) Q E s:=by
 obtain⟨c,tl,ad9⟩:=ft.mro;have adO:=ft.made;have Zu:=ft.sub;refine KS (codeAny_of_tree ?_);show wpAny _ _ (callAny (.type T) _) _ _ _;refine bY ⟨Code.quiet_builtin _ zq_dk,yS F.entry_type_call ?_⟩;rw[Around.under_plain (weight_type_call_type T args kw) (units_type_call_type T args kw)];have h1:=ft.notType;have h2:=ft.canCreate
 repeat(any_goals (first|assumption|wp_step))
 refine Bx (Zv ft.plain entryN (B2 Ls (g prog w A.in1 _ s h))) λ r s1 hr=>?_
 cases r with
 |error e=>exact hr
 |ok fl=>
  cases fl with
  |ret obj=>
   obtain⟨hT,db,Si,gi,hsi⟩:=Zt _ _ hr;have hli:=ft.init.lookup;have hbi:=ft.init.bind obj
   repeat(any_goals (first|assumption|wp_step))
   refine Bx (Zv ft.init.plain entryI (ft.init.check _ _ _ _ _ _ _ _ hT db (gi prog w A.in1 _ s1 hsi))) λ r2 s2 Zw=>?_
   cases r2 with
   |error e=>exact Zw
   |ok fl2=>
    cases fl2 with
    |ret r=>
     obtain⟨rfl,hq⟩:=Zw
     repeat(any_goals (first|assumption|wp_step))
    |_=>exact Zw.elim
  |_=>exact hr.elim
theorem initK{T yX:String}{self:aq}{cC:List aq}{kw:List (Str×aq)}(hl:typeLookup (.type T) "__init__"=pure (some (.builtin "object.__init__")))
  (hm:Bind.madeBy (.type T)=pure (some yX)) (jD:(some yX !=some "object.__new__")=true):
  BA (Builtin.«object.__init__» ⟨self::cC,kw⟩) (λ _ R s=>s.TypeIs self T/\R (.ok (.ret .none)) s):=by
 refine Meets.of_wp λ prog w A R s hs=>?_
 obtain⟨hT,hq⟩:=hs;cases cC with
 |nil=>
  cases kw with
  |nil=>exact bY ⟨_,rfl,hq⟩
  |cons a kw=>
   repeat(any_goals (first|assumption|wp_step))
   exact⟨_,rfl,hq⟩
 |cons a cC=>
  repeat(any_goals (first|assumption|wp_step))
  exact⟨_,rfl,hq⟩
abbrev IsZS(h:Heap)(z TI TO:Addr)(f0:aq):Prop:=
 h.get? z=some {cls:=.type "zip",dict:=none,data:=.fields #[f0,.bool false,.bool true,.ref TI,.ref TO],slots:=#[]}
abbrev QC(h:Heap)(l1:Addr):Heap:=h.push {cls:=.type "list_iterator",data:=.fields #[.ref l1,.int 0 0]}
abbrev QD(h:Heap)(l1 l2:Addr):Heap:=(QC h l1).push {cls:=.type "tuple_iterator",data:=.fields #[.ref l2,.int 0 0]}
abbrev QE(h:Heap)(l1 l2:Addr):Heap:=(QD h l1 l2).push {cls:=.type "tuple",data:=.seq #[.ref h.objs.size,.ref (QC h l1).objs.size]}
abbrev QF(h:Heap)(l1 l2:Addr):Heap:=(QE h l1 l2).push {cls:=.type "tuple",data:=.seq #[.none,.none]}
abbrev Ey(h:Heap)(l1 l2:Addr):Heap:=(QF h l1 l2).push {cls:=.type "zip",data:=.fields #[.none,.bool false,.bool true,.ref (QD h l1 l2).objs.size,.ref (QE h l1 l2).objs.size]}
theorem wk(l1 l2:Addr)(xs ys:Array aq):
  BA (Builtin.«zip.__new__» ⟨[.type "zip",.ref l1,.ref l2],[(cZ "strict",.bool true)]⟩) (λ _ R s=>s.heap.IsList l1 xs/\s.heap.IsTuple l2 ys/\
   R (.ok (.ret (.ref (QF s.heap l1 l2).objs.size))) {s with heap:=Ey s.heap l1 l2}):=
 .of_wp λ prog w A R s h=>by
  obtain⟨hp,g,d,tk,os⟩:=s;obtain⟨pj,mX,h⟩:=h;have Zu:=sub_zip;have hL1:Tr (LO ⟨hp,g,d,tk,os⟩) l1 xs:=pj;have hL2:Heap.IsTuple (LO ⟨hp.push {cls:=.type "list_iterator",data:=.fields #[.ref l1,.int 0 0]},g,d,tk,os⟩) l2 ys:=Heap.IsTuple.push mX _
  wp_walk using Im hL1,wpAny_pyIter_tuple hL2
  exact⟨_,rfl,h⟩
theorem sP{l1 l2:Addr}{xs ys:Array aq}{Q:aq ->ap ->Prop}(pj:s.heap.IsList l1 xs)(mX:s.heap.IsTuple l2 ys)
  (h:∀h',IsZS h' (s.heap.objs.size+4) (s.heap.objs.size+2) (s.heap.objs.size+3) .none ->cD h' (s.heap.objs.size+2) (.ref s.heap.objs.size) (.ref (s.heap.objs.size+1)) ->
   cD h' (s.heap.objs.size+3) .none .none ->h'.IsListIter s.heap.objs.size l1 0 ->h'.IsTupleIter (s.heap.objs.size+1) l2 0 ->h'.objs.size=s.heap.objs.size+5 ->
   (∀c o,s.heap.get? c=some o ->h'.get? c=some o) ->Q (.ref (s.heap.objs.size+4)) {s with heap:=h'}):
  wpAny (model prog w) A (call (.type "zip") [.ref l1,.ref l2] [(cZ "strict",.bool true)]) Q E s:=by
 refine callTypeK (Q1:=λ obj s1=>s1.TypeIs obj "zip"/\Q obj s1) Ca (tCall _ _) (nCall _ _) Zx Zy (wk l1 l2 xs ys) ⟨pj,mX,?_⟩
  λ obj _ hq=>⟨hq.1,iArgs obj _ _,_,initK Ca.init.lookup Ca.made zq_dc,hq.1,rfl,hq.2⟩
 have z1:(QC s.heap l1).objs.size=s.heap.objs.size+1:=fD ..;have z2:(QD s.heap l1 l2).objs.size=s.heap.objs.size+2:=by rw[fD,z1]
 have z3:(QE s.heap l1 l2).objs.size=s.heap.objs.size+3:=by rw[fD,z2]
 have z4:(QF s.heap l1 l2).objs.size=s.heap.objs.size+4:=by rw[fD,z3]
 have z5:(Ey s.heap l1 l2).objs.size=s.heap.objs.size+5:=by rw[fD,z4]
 have g5:(Ey s.heap l1 l2).get? (QF s.heap l1 l2).objs.size=some _:=fN _ rfl;have g4:(Ey s.heap l1 l2).get? (QE s.heap l1 l2).objs.size=some _:=cf _ (fN _ rfl);have g3:(Ey s.heap l1 l2).get? (QD s.heap l1 l2).objs.size=some _:=cf _ (cf _ (fN _ rfl));have g2:(Ey s.heap l1 l2).get? (QC s.heap l1).objs.size=some _:=cf _ (cf _ (cf _ (fN _ rfl)));have g1:(Ey s.heap l1 l2).get? s.heap.objs.size=some _:=cf _ (cf _ (cf _ (cf _ (fN _ rfl))));show _/\_;rw[z2,z3,z4]at g5;rw[z1,z2]at g3;rw[z3]at g4;rw[z1]at g2;rw[z4];exact⟨⟨_,g5,rfl⟩,h _ g5 g3 g4 ⟨_,g1,rfl,rfl⟩ ⟨_,g2,rfl,rfl⟩ z5 λ c o x=>
  cf _ (cf _ (cf _ (cf _ (cf _ x))))⟩
end
end ZS
namespace ZS
open PySem
section
variable{prog:dz}{w:c9}{A:cw}{E:aq ->ap ->Prop}{s:ap}
theorem ne_list_item{it l:Addr}{i:Nat}{items:Array aq}{x:aq}{Q:Option aq ->ap ->Prop}(eG:s.heap.IsListIter it l i)(hl:s.heap.IsList l items)(hx:items[i]?=some x)
  (hQ:∀h',h'.IsListIter it l (i+1) ->Ii it s.heap h' ->Q (some x) {s with heap:=h'}):wpAny (model prog w) A (jJ (.ref it)) Q E s:=by
 unfold jJ;exact az (uf (wpAny_nextOf_list_item eG hl hx λ h' a b=>bY (hQ h' a b)))
theorem ne_list_end{it l:Addr}{i:Nat}{items:Array aq}{Q:Option aq ->ap ->Prop}(hh:A.handled=none)(eG:s.heap.IsListIter it l i)(hl:s.heap.IsList l items)(hx:items[i]?=none)
  (hQ:∀h',Ts it s.heap h' ->Q none {s with heap:=h'}):wpAny (model prog w) A (jJ (.ref it)) Q E s:=by
 unfold jJ;refine az (uf (wpAny_nextOf_list_end hh eG hl hx λ h' e a b=>?_));obtain⟨o,ho,hc⟩:=b;exact az (LP (T:="StopIteration") (b:=true) ⟨o,ho,hc⟩ LQ (bY (hQ h' a)))
theorem Cb{it t:Addr}{i:Nat}{items:Array aq}{x:aq}{Q:aq ->ap ->Prop}(eG:s.heap.IsTupleIter it t i)(ht:s.heap.IsTuple t items)(hx:items[i]?=some x)
  (hQ:∀h',h'.IsTupleIter it t (i+1) ->Ii it s.heap h' ->Q x {s with heap:=h'}):wpAny (model prog w) A (LR (.ref it)) Q E s:=by
 obtain⟨o,ho,hc,hd⟩:=id eG;obtain⟨ol,Zz,_,nl,Xq⟩:=ht;unfold LR;refine az (Cc (name:=cZ "__next__") eG.typeIs LS
  (yY LS eG.typeIs ZA ?_ (ZB _)))
 show wpAny _ _ (field (.ref it) 0>>=_) _ _ s;refine az (g0 ho hd (x:=.ref t) rfl ?_);show wpAny _ _ (if(ji t==xV)=true then _ else _) _ _ s;rw[ao (show¬((ji t==xV)=true) from iH)];show wpAny _ _ (field (.ref it) 1>>=_) _ _ s;refine az (g0 ho hd (x:=.int i 0) rfl ?_);show wpAny _ _ (seqItems? (.ref t)>>=_) _ _ s;refine az (iM Zz Xq ?_);simp only[k9,hx];refine az (wpAny_setField ho hd aL (bY ⟨x,rfl,bY (hQ _ ?_ (nX ..))⟩));exact⟨_,Yw _ ho (Obj.isFreed_of_fields (ZC hd _)),(Obj.cls_mapFields ..).trans hc,by
  rw[ZC hd];simp[rawInt]⟩
theorem Ez{it t:Addr}{i:Nat}{items:Array aq}{Q:aq ->ap ->Prop}(hh:A.handled=none)(eG:s.heap.IsTupleIter it t i)(ht:s.heap.IsTuple t items)(hx:items[i]?=none)
  (hE:∀h' e,Ts it s.heap h' ->(∃o,h'.get? e=some o/\o.cls=.type "StopIteration") ->E (.ref e) {s with heap:=h'}):wpAny (model prog w) A (LR (.ref it)) Q E s:=by
 obtain⟨o,ho,hc,hd⟩:=id eG;obtain⟨ol,Zz,_,nl,Xq⟩:=ht;unfold LR;refine az (Cc (name:=cZ "__next__") eG.typeIs LS
  (yY LS eG.typeIs ZA ?_ (ZB _)))
 show wpAny _ _ (field (.ref it) 0>>=_) _ _ s;refine az (g0 ho hd (x:=.ref t) rfl ?_);show wpAny _ _ (if(ji t==xV)=true then _ else _) _ _ s;rw[ao (show¬((ji t==xV)=true) from iH)];show wpAny _ _ (field (.ref it) 1>>=_) _ _ s;refine az (g0 ho hd (x:=.int i 0) rfl ?_);show wpAny _ _ (seqItems? (.ref t)>>=_) _ _ s;refine az (iM Zz Xq ?_);simp only[k9,hx];refine az (pN (az (wpAny_setField ho hd aL ?_)));show wpAny _ _ (newExc (.type "StopIteration") []>>=_) _ _ _;refine az ?_;simp only[newExc,newTuple];refine az (yJ ?_ (by size_fits));refine az (m:=firstArgMember _ _) (B2 (a:=xV) (by first|rfl|(simp only [firstArgMember];rfl)) ?_);refine yJ ?_ (by size_fits);simp only[raiseNew];refine az (Tt ?_)
 first|rw[show A.in1.handled=none from hh]|rw[hh]
 refine az (bY (Tu ?_));exact hE _ _ (((nX ..).extBut.push _).push _) ⟨_,fN _ rfl,rfl⟩
theorem Cd{it t:Addr}{i:Nat}{items:Array aq}{x:aq}{Q:Option aq ->ap ->Prop}(eG:s.heap.IsTupleIter it t i)(ht:s.heap.IsTuple t items)(hx:items[i]?=some x)
  (hQ:∀h',h'.IsTupleIter it t (i+1) ->Ii it s.heap h' ->Q (some x) {s with heap:=h'}):wpAny (model prog w) A (jJ (.ref it)) Q E s:=by
 unfold jJ;exact az (uf (Cb eG ht hx λ h' a b=>bY (hQ h' a b)))
theorem EA{it t:Addr}{i:Nat}{items:Array aq}{Q:Option aq ->ap ->Prop}(hh:A.handled=none)(eG:s.heap.IsTupleIter it t i)(ht:s.heap.IsTuple t items)(hx:items[i]?=none)
  (hQ:∀h',Ts it s.heap h' ->Q none {s with heap:=h'}):wpAny (model prog w) A (jJ (.ref it)) Q E s:=by
 unfold jJ;refine az (uf (Ez hh eG ht hx λ h' e a b=>?_));obtain⟨o,ho,hc⟩:=b;exact az (LP (T:="StopIteration") (b:=true) ⟨o,ho,hc⟩ LQ (bY (hQ h' a)))
theorem sQ{z TI TO i1 i2 l1 l2:Addr}{k1 k2:Nat}{xs ys:Array aq}{x y a b:aq}{Q:aq ->ap ->Prop}(D:rf z TI TO i1 i2 l1 l2)
  (hz:IsZS s.heap z TI TO .none) (lM:cD s.heap TI (.ref i1) (.ref i2)) (nY:cD s.heap TO a b)
  (h1:s.heap.IsListIter i1 l1 k1) (h2:s.heap.IsTupleIter i2 l2 k2) (pj:s.heap.IsList l1 xs) (mX:s.heap.IsTuple l2 ys) (hx:xs[k1]?=some x) (hy:ys[k2]?=some y)
  (hQ:∀h',IsZS h' z TI TO (rawInt s.heap.objs.size) ->cD h' TO x y ->h'.IsListIter i1 l1 (k1+1) ->h'.IsTupleIter i2 l2 (k2+1) ->cD h' s.heap.objs.size x y ->h'.objs.size=s.heap.objs.size+1 ->
   (∀c o,c≠z ->c≠TO ->c≠i1 ->c≠i2 ->s.heap.get? c=some o ->h'.get? c=some o) ->Q (.ref s.heap.objs.size) {s with heap:=h'}):
  wpAny (model prog w) A (Builtin.«zip.__next__» ⟨[.ref z],[]⟩) (λ fin s'=>∃v,fin=.done (.ret v)/\Q v s') E s:=by
 show wpAny _ _ (field (.ref z) 2>>=_) _ _ _;refine az (g0 hz rfl (x:=.bool true) rfl ?_);show wpAny _ _ (field (.ref z) 3>>=_) _ _ _;refine az (g0 hz rfl (x:=.ref TI) rfl ?_);refine az (iM lM rfl ?_);show wpAny _ _ (wl (.ref z)>>=_) _ _ _;refine az ?_;unfold wl;refine az (g0 hz rfl (x:=.none) rfl (bY ?_));simp only[mo];refine az (pN ?_);refine az (g0 hz rfl (x:=.ref TO) rfl ?_);refine az (pP hz aL λ h₁ EB wm=>?_)
 replace EB:IsZS h₁ z TI TO .ellipsis:=EB
 refine az ?_;simp only[LU,LV,v4,ub];refine az (az (Ce ?_));show wpAny _ _ (jJ (.ref i1)) _ _ _;refine ne_list_item (h1.extBut wm.extBut D.i1z) (pj.extBut wm.extBut D.l1z) hx λ h₂ h1₂ z8=>?_
 have LW:cD h₂ TO a b:=z8.extBut _ _ D.TOi1 (wm.extBut _ _ D.TOz nY);refine az (iM LW rfl ?_);refine az (LX LW λ h₃ EC Cf=>?_)
 replace EC:cD h₃ TO x b:=EC
 refine az (mr (bY ?_));refine az (az (Ce ?_));show wpAny _ _ (jJ (.ref i2)) _ _ _;refine Cd (((h2.extBut wm.extBut D.i2z).extBut z8.extBut D.i12.symm).extBut Cf.extBut D.TOi2.symm)
  (((mX.extBut wm.extBut D.l2z).extBut z8.extBut D.l2i1).extBut Cf.extBut D.l2TO) hy λ h₄ h2₄ ED=>?_
 have LY:cD h₄ TO x b:=ED.extBut _ _ D.TOi2 EC;refine az (iM LY rfl ?_);refine az (LX LY λ h₅ z9 LZ=>?_)
 replace z9:cD h₅ TO x y:=z9
 refine az (mr (bY (bY ?_)));refine az (iM z9 rfl ?_);refine az (Tq ?_);have hsz:h₅.objs.size=s.heap.objs.size:=by rw[LZ.1,ED.1,Cf.1,z8.1,wm.1]
 have ZD:IsZS h₅ z TI TO .ellipsis:=LZ.extBut _ _ D.TOz.symm (ED.extBut _ _ D.i2z.symm (Cf.extBut _ _ D.TOz.symm (z8.extBut _ _ D.i1z.symm EB)));have hk₅:∀c o,c≠z ->c≠TO ->c≠i1 ->c≠i2 ->s.heap.get? c=some o ->h₅.get? c=some o:=λ c o c1 c2 c3 c4 e=>
  LZ.extBut _ _ c2 (ED.extBut _ _ c4 (Cf.extBut _ _ c2 (z8.extBut _ _ c3 (wm.extBut _ _ c1 e))))
 have h1₅:h₅.IsListIter i1 l1 (k1+1):=((h1₂.extBut Cf.extBut D.TOi1.symm).extBut ED.extBut D.i12).extBut LZ.extBut D.TOi1.symm;have h2₅:h₅.IsTupleIter i2 l2 (k2+1):=h2₄.extBut LZ.extBut D.TOi2.symm;have L1:z<h₅.objs.size:=dB ZD;show wpAny _ _ (L_ (.ref z) (.ref h₅.objs.size)>>=_) _ _ _;refine az ?_;unfold L_;have hz₆:IsZS (h₅.push {cls:=.type "tuple",data:=.seq #[x,y]}) z TI TO .ellipsis:=cf _ ZD;refine az (pP hz₆ aL λ h₇ VF VG=>?_)
 replace VF:IsZS h₇ z TI TO (rawInt h₅.objs.size):=VF
 refine pP VF aL λ h₈ QG VH=>?_
 replace QG:IsZS h₈ z TI TO (rawInt h₅.objs.size):=QG
 have up:∀c o,c≠z ->h₅.get? c=some o ->h₈.get? c=some o:=λ c o c1 e=>VH.extBut _ _ c1 (VG.extBut _ _ c1 (cf _ e))
 have ZE:cD h₈ h₅.objs.size x y:=VH.extBut _ _ (zK L1) (VG.extBut _ _ (zK L1) (fN _ rfl));have ZF:h₈.objs.size=h₅.objs.size+1:=by rw[VH.1,VG.1,fD]
 rw[hsz]at QG ZE ZF;refine bY ⟨_,rfl,?_⟩;show Q (.ref h₅.objs.size) _;rw[hsz];exact hQ h₈ QG (up _ _ D.TOz z9) (h1₅.at λ o e=>up _ o D.i1z e) (by obtain⟨o,e,r⟩:=h2₅;exact⟨o,up _ o D.i2z e,r⟩) ZE ZF λ c o c1 c2 c3 c4 e=>up c o c1 (hk₅ c o c1 c2 c3 c4 e)
end
section
variable{prog:dz}{w:c9}{A:cw}{E:aq ->ap ->Prop}{s:ap}
theorem wn{z TI TO i1 i2 l1 l2:Addr}{k1 k2:Nat}{xs ys:Array aq}{a b:aq}{Q:GS ->ap ->Prop}(hh:A.handled=none)(D:rf z TI TO i1 i2 l1 l2)
  (hz:IsZS s.heap z TI TO .none) (lM:cD s.heap TI (.ref i1) (.ref i2)) (nY:cD s.heap TO a b)
  (h1:s.heap.IsListIter i1 l1 k1) (h2:s.heap.IsTupleIter i2 l2 k2) (pj:s.heap.IsList l1 xs) (mX:s.heap.IsTuple l2 ys) (hx:xs[k1]?=none) (hy:ys[k2]?=none)
  (hE:∀h' e,(∀c o,c≠z ->c≠TO ->c≠i1 ->c≠i2 ->s.heap.get? c=some o ->h'.get? c=some o) ->(∃o,h'.get? e=some o/\o.cls=.type "StopIteration") ->E (.ref e) {s with heap:=h'}):
  wpAny (model prog w) A (Builtin.«zip.__next__» ⟨[.ref z],[]⟩) Q E s:=by
 show wpAny _ _ (field (.ref z) 2>>=_) _ _ _;refine az (g0 hz rfl (x:=.bool true) rfl ?_);show wpAny _ _ (field (.ref z) 3>>=_) _ _ _;refine az (g0 hz rfl (x:=.ref TI) rfl ?_);refine az (iM lM rfl ?_);show wpAny _ _ (wl (.ref z)>>=_) _ _ _;refine az ?_;unfold wl;refine az (g0 hz rfl (x:=.none) rfl (bY ?_));simp only[mo];refine az (pN ?_);refine az (g0 hz rfl (x:=.ref TO) rfl ?_);refine az (pP hz aL λ h₁ EB wm=>?_)
 replace EB:IsZS h₁ z TI TO .ellipsis:=EB
 refine az ?_;simp only[LU,LV,v4,ub];refine az (az (Ce ?_));show wpAny _ _ (jJ (.ref i1)) _ _ _;refine ne_list_end hh (h1.extBut wm.extBut D.i1z) (pj.extBut wm.extBut D.l1z) hx λ h₂ z8=>?_
 dsimp only;have hz₂:IsZS h₂ z TI TO .ellipsis:=z8 _ _ D.i1z.symm EB;refine az (pP hz₂ aL λ h₃ hz₃ Cf=>?_);refine az ?_;show wpAny _ _ (forIn [((ji i2:aq),1)] _ _>>=_) _ _ _;rw[v4];refine az (az ?_);show wpAny _ _ (jJ (.ref i2)>>=_) _ _ _;have c2:∀c o,c≠z ->c≠i1 ->s.heap.get? c=some o ->h₃.get? c=some o:=λ c o n1 n2 e=>Cf.extBut _ _ n1 (z8 _ _ n2 (wm.extBut _ _ n1 e))
 have mY:h₃.IsTupleIter i2 l2 k2:=by obtain⟨o,e,r⟩:=h2;exact⟨o,c2 _ _ D.i2z D.i12.symm e,r⟩
 have VI:h₃.IsTuple l2 ys:=by obtain⟨o,e,r⟩:=mX;exact⟨o,c2 _ _ D.l2z D.l2i1 e,r⟩
 refine az (EA hh mY VI hy λ h₄ ED=>?_);simp only[ZG,v6,pH];refine bY ?_;dsimp only;rw[ub];refine bY ?_;refine az (pN ?_);show wpAny _ _ (newExc (.type "StopIteration") []>>=_) _ _ _;refine az ?_;simp only[newExc,newTuple];refine az (yJ ?_ (by size_fits));refine az (m:=firstArgMember _ _) (B2 (a:=xV) (by first|rfl|(simp only [firstArgMember];rfl)) ?_);refine yJ ?_ (by size_fits);simp only[raiseNew];refine az (Tt ?_)
 first|rw[show A.in1.handled=none from hh]|rw[hh]
 refine az (bY (Tu ?_));refine hE _ _ (λ c o n1 n2 n3 n4 e=>cf _ (cf _ (ED _ _ n4 (c2 _ _ n1 n3 e)))) ⟨_,fN _ rfl,rfl⟩
theorem sR{z TI TO i1 i2 l1 l2:Addr}{k1 k2:Nat}{xs ys:Array aq}{x y a b:aq}{Q:Option aq ->ap ->Prop}(D:rf z TI TO i1 i2 l1 l2)
  (hz:IsZS s.heap z TI TO .none) (lM:cD s.heap TI (.ref i1) (.ref i2)) (nY:cD s.heap TO a b)
  (h1:s.heap.IsListIter i1 l1 k1) (h2:s.heap.IsTupleIter i2 l2 k2) (pj:s.heap.IsList l1 xs) (mX:s.heap.IsTuple l2 ys) (hx:xs[k1]?=some x) (hy:ys[k2]?=some y)
  (hQ:∀h',IsZS h' z TI TO (rawInt s.heap.objs.size) ->cD h' TO x y ->h'.IsListIter i1 l1 (k1+1) ->h'.IsTupleIter i2 l2 (k2+1) ->cD h' s.heap.objs.size x y ->h'.objs.size=s.heap.objs.size+1 ->
   (∀c o,c≠z ->c≠TO ->c≠i1 ->c≠i2 ->s.heap.get? c=some o ->h'.get? c=some o) ->Q (some (.ref s.heap.objs.size)) {s with heap:=h'}):
  wpAny (model prog w) A (pyNext (.ref z)) Q E s:=by
 have hT:s.TypeIs (.ref z) "zip":=⟨_,hz,rfl⟩;unfold pyNext;exact az (uf (Cc (name:=cZ "__next__") hT ug
  (yY ug hT Ma
   (sQ D hz lM nY h1 h2 pj mX hx hy λ h' a1 a2 a3 a4 a5 a6 a7=>bY (hQ h' a1 a2 a3 a4 a5 a6 a7)) (Mb _))))
theorem wo{z TI TO i1 i2 l1 l2:Addr}{k1 k2:Nat}{xs ys:Array aq}{a b:aq}{Q:Option aq ->ap ->Prop}(hh:A.handled=none)(D:rf z TI TO i1 i2 l1 l2)
  (hz:IsZS s.heap z TI TO .none) (lM:cD s.heap TI (.ref i1) (.ref i2)) (nY:cD s.heap TO a b)
  (h1:s.heap.IsListIter i1 l1 k1) (h2:s.heap.IsTupleIter i2 l2 k2) (pj:s.heap.IsList l1 xs) (mX:s.heap.IsTuple l2 ys) (hx:xs[k1]?=none) (hy:ys[k2]?=none)
  (hQ:∀h',(∀c o,c≠z ->c≠TO ->c≠i1 ->c≠i2 ->s.heap.get? c=some o ->h'.get? c=some o) ->Q none {s with heap:=h'}):wpAny (model prog w) A (pyNext (.ref z)) Q E s:=by
 have hT:s.TypeIs (.ref z) "zip":=⟨_,hz,rfl⟩;unfold pyNext;refine az (uf (Cc (name:=cZ "__next__") hT ug
  (yY ug hT Ma (wn hh D hz lM nY h1 h2 pj mX hx hy λ h' e hk he=>?_) (Mb _))))
 obtain⟨o,ho,hc⟩:=he;refine az (LP (T:="StopIteration") (b:=true) ⟨o,ho,hc⟩ LQ ?_);exact bY (hQ _ hk)
theorem go{sM:List Expr}{x1}{pos:Pos}{z TI TO T:Addr}{Q:Unit ->ap ->Prop}(hz:IsZS s.heap z TI TO (rawInt T))
  (hQ:∀h',IsZS h' z TI TO .none ->Ii z s.heap h' ->Q () {s with heap:=h'}):
  wpAny (model prog w) A (letOwnedTupleGo (.Tuple sM x1 pos) (.ref z) (.ref T)) Q E s:=by
 unfold letOwnedTupleGo;refine az (wpAny_load hz ?_);show wpAny _ _ (if(["enumerate","zip","dict_itemiterator","dict_reverseitemiterator","odict_iterator","itertools.zip_longest","itertools.pairwise"].contains "zip"&&
   (#[rawInt T,.bool false,.bool true,.ref TI,.ref TO]:Array aq)[0]?==some (rawInt T))=true then _ else _) Q E s
 rw[au aL];refine az (pN ?_);show wpAny _ _ (setField (.ref z) 0 .none) Q E s;exact pP hz aL λ h' hz' YZ=>hQ h' hz' YZ
theorem iter{z TI TO:Addr}{f0:aq}{Q:aq ->ap ->Prop}(hz:IsZS s.heap z TI TO f0)(h:Q (.ref z) s):wpAny (model prog w) A (pyIter (.ref z)) Q E s:=by
 have hT:s.TypeIs (.ref z) "zip":=⟨_,hz,rfl⟩;refine wpAny_pyIter_slot hT ZH (yY ZH hT F.entry_zip_iter ?_ (F.args_zip_iter_1 _));show wpAny _ _ (ret (.ref z)) _ _ s;exact bY ⟨_,rfl,"zip",_,hT,ug.lookup,h⟩
end
end ZS
namespace L2
open PySem PySem.Spec PyProof.Rows
theorem rh{M:Ih}{A:cw}{E:aq ->ap ->Prop}{s:ap}{aC:Env}{pos:Pos}{T:String}{e:Expr}{cC:List Expr}{Vi:List KZ}{Q:aq ->ap ->Prop}
  (h:wpAny M A (spliced (backTo pos (starEach (e::cC) aC))) (λ vs s1=>wpAny M A (evalAll ((backToKw pos (keywordEach Vi aC)).map (·.2)))
   (λ kU s2=>wpAny M A (call (.type T) vs (((backToKw pos (keywordEach Vi aC)).filterMap (·.1)).zip kU)) Q E s2) E s1) E s)
  (he:backTo pos (starEach (e::cC) aC)=(false,eval e aC)::backTo pos (starEach cC aC):=by rfl)
  (hplain:(backTo pos (starEach (e::cC) aC)).any (·.1)=false:=by rfl)
  (ib:(backToKw pos (keywordEach Vi aC)).all (·.1.isSome)=true:=by rfl)
  (hkw:(backToKw pos (keywordEach Vi aC)).any (·.1.isNone)=false:=by rfl):
  wpAny M A (callWith pos (.type T) [] (backTo pos (starEach (e::cC) aC)) (backToKw pos (keywordEach Vi aC))) Q E s:=by
 unfold callWith;have h':wpAny M A (evalArgs (.type T) true (backTo pos (starEach (e::cC) aC)) (backToKw pos (keywordEach Vi aC))) (λ a s1=>wpAny M A (call (.type T) ([]++a.pos) a.kw) Q E s1) E s:=by
  rw[he]at h⊢;exact evalArgs_kwB ib h
 refine az (uS (o_ h' (λ a s1 h1=>az (U9 ?_)) λ _ _ x=>x));simp only[hplain,hkw,Yv];refine az (bY ?_);exact az (o_ h1 (λ r s2 hr=>az (uS (wpAny_point (bY hr)))) λ _ _ x=>x)
def Mc(K:aE)(a b:Addr):It:=
 ⟨λ i H=>∃(xs ys:List V)(x y:V),aP K H a xs/\e9 K H b ys/\xs[i]?=some x/\ys[i]?=some y,
  λ i H v H'=>∃T x y,v=.ref T/\H T=none/\H'=aS H T (.fc [x,y])/\(∀xs,aP K H a xs ->xs[i]?=some x)/\∀ys,e9 K H b ys ->ys[i]?=some y,
  λ i H=>∃xs ys:List V,aP K H a xs/\e9 K H b ys/\xs.length<=i/\ys.length<=i⟩
theorem IL{P:dz}{w:c9}{K:aE}{sM:List Expr}{kk:Nat}{pb:Pos}{a b z TI TO i1 i2:Addr}(D:rf z TI TO i1 i2 a b):
  Br P w K (.Tuple sM kk pb) (Mc K a b) [z,TI,TO,i1,i2] z (λ i h=>ZS.IsZS h z TI TO .none/\cD h TI (.ref i1) (.ref i2)/\(∃x y,cD h TO x y)/\h.IsListIter i1 a i/\h.IsTupleIter i2 b i)where
 mem:=by simp
 obj:=λ i h st c hc=>by
  obtain⟨hz,lM,⟨x,y,nY⟩,⟨o1,e1,_,d1⟩,⟨o2,e2,_,d2⟩⟩:=st;have e':c=z\/c=TI\/c=TO\/c=i1\/c=i2:=by simpa using hc
  rcases e' with q|q|q|q|q
  .rw[q];exact⟨_,hz,λ v q=>nomatch q⟩
  .rw[q];exact⟨_,lM,λ v q=>nomatch q⟩
  .rw[q];exact⟨_,nY,λ v q=>nomatch q⟩
  .rw[q];exact⟨o1,e1,λ v q=>by rw[d1]at q;cases q⟩
  .rw[q];exact⟨o2,e2,λ v q=>by rw[d2]at q;cases q⟩
 keep:=λ i h h' st k=>by
  obtain⟨hz,lM,⟨x,y,nY⟩,h1,⟨o2,e2,r2⟩⟩:=st;exact⟨k z aL _ hz,k TI aL _ lM,⟨x,y,k TO aL _ nY⟩,h1.at λ o q=>k i1 aL o q,⟨o2,k i2 aL _ e2,r2⟩⟩
 item:=by
  intro X hP hw hK hc i pins s σ H E I hf st hg;subst hP hw hK;obtain⟨hz,lM,⟨x0,y0,nY⟩,h1,h2⟩:=st;obtain⟨xs,ys,x,y,IM,IN,hx,hy⟩:=hg;obtain⟨bb,rv,p,_⟩:=I.list IM;obtain⟨mT,QH,p2,_⟩:=I.tuple IN;obtain⟨u,hu,ru⟩:=rv.get hx;obtain⟨u2,hu2,ru2⟩:=QH.get hy;have LM:z<s.heap.objs.size:=dB hz;refine ZS.sR D hz lM nY h1 h2 p.isList (show s.heap.IsTuple b mT.toArray from p2) (x:=u) (y:=u2) (by simpa using hu) (by simpa using hu2) λ h' z' TO' fZ mY hT hsz hk=>?_
  refine⟨_,rfl,ZS.go (s:={s with heap:=h'}) z' λ Kf ZI sb=>?_⟩;have YU:Kf.get? s.heap.objs.size=some {cls:=.type "tuple",data:=.seq #[u,u2]}:=(sb.2 _ (zK LM)).trans hT;have new:gm X.prog X.w (aS H s.heap.objs.size (.fc [x,y])) Kf s.heap.objs.size (.fc [x,y]):=
   ⟨by show 2<=sizeLine;decide,[u,u2],.cons ru (.cons ru2 .nil),⟨_,YU,rfl,_,rfl⟩⟩
  have I1:aZ X pins σ (aS H s.heap.objs.size (.fc [x,y])) {s with heap:=Kf}:=
   I.sK (t':=s.toks) (ch:=[z,TI,TO,i1,i2]) (λ c o hb q=>(sb.2 c (λ q'=>hb (by simp[q']))).trans (hk c o (λ q'=>hb (by simp[q'])) (λ q'=>hb (by simp[q'])) (λ q'=>hb (by simp[q'])) (λ q'=>hb (by simp[q'])) q)) hf (ci _) new
  refine⟨.ref s.heap.objs.size,_,I1,rfl,⟨_,x,y,rfl,I.db.fresh (ci _),rfl,λ l hl=>by rw[I.nc hl IM];exact hx,λ l hl=>by rw[I.Ij hl IN];exact hy⟩,⟨ZI,?_,⟨u,u2,?_⟩,?_,?_⟩,λ c Md=>?_⟩
  .exact(sb.2 _ D.TIz).trans (hk _ _ D.TIz D.TITO D.TIi1 D.TIi2 lM)
  .exact(sb.2 _ D.TOz).trans TO'
  .exact fZ.at λ o q=>(sb.2 _ D.i1z).trans q
  .obtain⟨o2,e2,r2⟩:=mY;exact⟨o2,(sb.2 _ D.i2z).trans e2,r2⟩
  .have dC:c<s.heap.objs.size:=by
    have e':c=z\/c=TI\/c=TO\/c=i1\/c=i2:=by simpa using Md
    rcases e' with q|q|q|q|q
    .rw[q];exact LM
    .rw[q];exact dB lM
    .rw[q];exact dB nY
    .rw[q];obtain⟨_,e1,_⟩:=h1;exact dB e1
    .rw[q];obtain⟨_,e2,_⟩:=h2;exact dB e2
   rw[ag (jj dC)];exact(hf c Md).1
 done:=by
  intro X hP hw hK hc i pins s σ H E I hf st hg;subst hP hw hK;obtain⟨hz,lM,⟨x0,y0,nY⟩,h1,h2⟩:=st;obtain⟨xs,ys,IM,IN,l1,l2⟩:=hg;obtain⟨bb,rv,p,_⟩:=I.list IM;obtain⟨mT,QH,p2,_⟩:=I.tuple IN;have n1:=rv.length;have n2:=QH.length;exact ZS.wo (I.ok.hd hc) D hz lM nY h1 h2 p.isList (show s.heap.IsTuple b mT.toArray from p2) i6 i6 λ h' hk=>⟨rfl,I.dq (t':=s.toks) (ch:=[z,TI,TO,i1,i2]) (λ c o hb q=>
   hk c o (λ q'=>hb (by simp[q'])) (λ q'=>hb (by simp[q'])) (λ q'=>hb (by simp[q'])) (λ q'=>hb (by simp[q'])) q) hf⟩
 self:=λ A i s Q E st h=>ZS.iter st.1 h
def ZJ(K:aE)(ta:TA):TI:=λ σ H R=>ta σ H λ vs H1=>∃a b xs ys,vs=[.ref a,.ref b]/\aP K H1 a xs/\e9 K H1 b ys/\R (Mc K a b) H1
theorem QI{X:Cx}{e e2:Expr}{ta:TA}{p pos pb kp cp:Pos}{j:Nat}{sM:List Expr}{kk:Nat}(hg:Gl X "zip")(hm:X.mg "zip"=none)(ha:PA X [e,e2] ta)
  (hs:starEach [e,e2] X.aC=(false,eval e X.aC)::starEach [e2] X.aC:=by rfl) (pc:(backTo pos (starEach [e2] X.aC)).any (·.1)=false:=by rfl):
  PI X (.Tuple sM kk pb) (.Call (.Name "zip" p) [e,e2] [⟨some "strict",.Constant (.bool true) j cp,kp⟩] pos) (ZJ X.K ta):=by
 intro pins s σ H R I h;refine qJ (jC I hg hm yM (rh (dQ (ha pos pins s σ H _ I h) λ us s1 ⟨vs,H1,I1,r1,q1⟩=>?_) (by rw[hs];rfl) (by rw[hs];exact pc)));obtain⟨a,b,xs,ys,ex,IM,IN,q⟩:=q1;subst ex;refine B4 (XZ (GO ?_));cases r1 with
 |cons r rr=>
  cases rr with
  |cons r' rr=>
   cases rr;cases r;cases r';obtain⟨bb,rv,p1,_⟩:=I1.list IM;obtain⟨mT,QH,p2,_⟩:=I1.tuple IN;have la:a<s1.heap.objs.size:=p1.lt;have lb:b<s1.heap.objs.size:=p2.lt;show wpAny _ X.A (call (.type "zip") [.ref a,.ref b] [(cZ "strict",.bool true)]) _ _ s1;refine ZS.sP p1.isList (show s1.heap.IsTuple b mT.toArray from p2) λ h' hz lM nY h1 h2 hsz hk=>ZS.iter hz ?_
   have I2:aZ X pins σ H1 {s1 with heap:=h'}:=I1.fw (t':=s1.toks) hk;refine⟨s1.heap.objs.size+4,[s1.heap.objs.size+4,s1.heap.objs.size+2,s1.heap.objs.size+3,s1.heap.objs.size,s1.heap.objs.size+1],_,_,H1,rfl,I2,IL (ZK s1.heap.objs.size a b la lb),⟨hz,lM,⟨_,_,nY⟩,h1,h2⟩,λ c Md=>?_,q⟩;have e':c=s1.heap.objs.size+4\/c=s1.heap.objs.size+2\/c=s1.heap.objs.size+3\/c=s1.heap.objs.size\/c=s1.heap.objs.size+1:=by simpa using Md
   have yL:s1.heap.objs.size<=c:=by
    rcases e' with z|z|z|z|z
    .rw[z];exact pK _ _
    .rw[z];exact pK _ _
    .rw[z];exact pK _ _
    .rw[z];exact ci _
    .rw[z];exact pK _ _
   exact I1.qe yL (I1.db.fresh yL)
theorem Me{K:aE}{a b:Addr}{xs ys:List V}{g:TG}{tb:TS}{D:vL}{σ:St}{H:Hp}(Pv:Nat ->St ->Hp ->Prop)(h0:Pv 0 σ H)(bH:xs.length=ys.length)(hl:∀i σ H,i<=xs.length ->Pv i σ H ->aP K H a xs/\e9 K H b ys)
  (hs:∀i x y T σ H,xs[i]?=some x ->ys[i]?=some y ->Pv i σ H ->H T=none ->g (.ref T) σ (aS H T (.fc [x,y])) λ σ2 H2=>tb {D with nx:=Pv (i+1),ct:=Pv (i+1),bk:=D.nx} σ2 H2) (hd:∀σ H,Pv xs.length σ H ->D.nx σ H):
  ∃W:Nat ->Nat ->St ->Hp ->Prop,(∃m,W 0 m σ H)/\∀i m σ H,W i m σ H ->
   ((Mc K a b).stop i H/\D.nx σ H)\/((Mc K a b).go i H/\∃N:St ->Hp ->Prop,(∀σ' H',N σ' H' ->∃m',m'<m/\W (i+1) m' σ' H')/\∀x H',(Mc K a b).zJ i H x H' ->g x σ H' λ σ2 H2=>tb {D with nx:=N,ct:=N,bk:=D.nx} σ2 H2):=by
 refine⟨λ i m σ H=>m=xs.length -i/\i<=xs.length/\Pv i σ H,⟨xs.length,by simp,ia _,h0⟩,?_⟩
 rintro i m σ H ⟨rfl,hi,p⟩
 obtain⟨q1,q2⟩:=hl i σ H hi p;by_cases dC:i<xs.length
 .have VJ:i<ys.length:=by omega
  refine .inr ⟨⟨xs,ys,xs[i],ys[i],q1,q2,by simp[dC],by simp[VJ]⟩,Pv (i+1),λ σ' H' p'=>⟨xs.length -(i+1),ah,rfl,dC,p'⟩,λ v H' y=>?_⟩;obtain⟨T,x,y',rfl,hT,rfl,e1,e2⟩:=y;exact hs i x y' T σ H (e1 xs q1) (e2 ys q2) p hT
 .have e:i=xs.length:=by omega
  subst e;exact .inl ⟨⟨xs,ys,q1,q2,ci _,ah⟩,hd σ H p⟩
def FnV(X:Cx)(k:Nat)(v:V)(sp:Sp):Prop:=∃f fd ps,v=.ref f/\mh X.K (.ref f)=true/\j6 X.K fd ps []/\bj X.prog X.w X.K X.mg X.base CX0 k f fd ps sp
def VL(X:Cx)(k:Nat)(tf:TE)(t:TA):TE:=λ σ H Q=>tf σ H λ v H1=>∃sp:Sp,FnV X k v sp/\t σ H1 λ vs H2=>sp vs H2 Q E0
theorem Cg{X:Cx}{k:Nat}{fe e:Expr}{es:List Expr}{pos:Pos}{tf:TE}{t:TA}(hr:dR k X.A)(hf:PE X fe tf)(ha:PA X (e::es) t)
  (he:eval (.Call fe (e::es) [] pos) X.aC=(do callWith pos (<-eval fe X.aC) [] (backTo pos (starEach (e::es) X.aC)) (backToKw pos (keywordEach [] X.aC))):=by rfl)
  (hs:starEach (e::es) X.aC=(false,eval e X.aC)::starEach es X.aC:=by rfl) (pc:(backTo pos (starEach es X.aC)).any (·.1)=false:=by rfl):
  PE X (.Call fe (e::es) [] pos) (VL X k tf t):=by
 intro pins s σ H Q I h;refine Call_ (dQ (hf pins s σ H _ I h) λ u s1 ⟨v,H1,I1,rv,sp,⟨f,fd,ps,ev,hk,hb,F⟩,q⟩=>?_) he;subst ev;cases rv;refine KU (h₀:=X.base) I.ok.mod.Xb hk (dQ (ha pos pins s1 σ H1 _ I1 q) λ us s2 ⟨vs,H2,I2,r2,q2⟩=>⟨I2.Bc,?_⟩) hs pc;refine zP (E:=E0) (vp:=[]) F hr hb .nil yN I2 r2 ?_;rw[tZ];exact q2
end L2
namespace L2
open PySem PySem.Spec PyProof.Rows
open PySem.W (Codec OpenSpec TabsAt tabObj CodeHd WData WellAll ReadsW)
def VM(ps:List Addr)(H:Hp):Hp:=λ b=>if b∈ps then some (.tP #[])else H b
theorem QJ{ps:List Addr}{H:Hp}{b:Addr}(h:b∈ps):VM ps H b=some (.tP #[]):=au h
theorem Ch{ps:List Addr}{H:Hp}{b:Addr}(h:b∉ps):VM ps H b=H b:=ao h
def Ci(ps:List Addr)(H:Hp):Prop:=∀b,(b∈ps/\H b=some (.tP #[]))\/(b∉ps/\(H b=none\/∃o u,H b=some (.yr o u)))
mutual
theorem QK{K:aE}{H H':Hp}(fl:∀{a:Addr}{xs:List V},aP K H a xs ->aP K H' a xs)(ft:∀{a:Addr}{xs:List V},e9 K H a xs ->e9 K H' a xs):∀{v:V}{d:WData},Dw K H v d ->Dw K H' v d
 |_,_,.bu=>.bu
 |_,_,.bl b=>.bl b
 |_,_,.int i=>.int i
 |_,_,.str x=>.str x
 |_,_,.zE b=>.zE b
 |_,_,.aD h r=>.aD (fl h) (lN fl ft r)
 |_,_,.fc h r=>.fc (ft h) (lN fl ft r)
theorem lN{K:aE}{H H':Hp}(fl:∀{a:Addr}{xs:List V},aP K H a xs ->aP K H' a xs)(ft:∀{a:Addr}{xs:List V},e9 K H a xs ->e9 K H' a xs):∀{vs:List V}{ds:List WData},jH K H vs ds ->jH K H' vs ds
 |_,_,.nil=>.nil
 |_,_,.cons h r=>.cons (QK fl ft h) (lN fl ft r)
end
theorem EE{P:dz}{w:c9}{K:aE}{mg mb:Str ->Option aq}{CX:Kd}{k:Nat}{fa:Addr}{fd:bp}{ps:List Str}{sp:Sp}{s₁:ap}{f_:List aq}{ds:List WData}{R:Y0}{cl:Str ->Option Addr}{d0:WData}{cE:List (Addr×Addr)}
  (KX:K.In s₁.heap) (rc:s₁.heap.Ns mainGlobals mg) (hb:s₁.heap.Ns builtinsNs mb) (Xr:∀x:Str,x≠"__name__" ->mb x=bootBuiltins x) (acS:s₁.heap.NoLimit) (hg:s₁.gens=#[])
  (hT:TabsAt cE s₁.heap) (hnT:ZM K=true)
  (ZN:WellAll w.params s₁.heap f_ ds) (pc:uU ds=true) (hwt:∀d∈ds,d.weight<=1048576) (hr:dR k callerA)
  (hbm:BU mg s₁.heap) (F:∀base:Heap,K.In base ->base.Ns mainGlobals mg ->BU mg base ->bj P w K mg base CX k fa fd ps sp) (ZO:∀(s:ap)(us:List aq),us.length=ps.length ->Ge s fd ⟨us,[]⟩ (ps.zip us)) (bH:ds.length=ps.length)
  (Pn:∀(H:Hp)(xs:List V),Ci (cE.map (·.2)) H ->jH K H xs ds ->sp xs H (λ v H'=>Dw K H' v d0) λ _ _ _=>False)
  (hCX:∀H e s',CX [] H s₁ (λ _ _ _=>False) e s' ->False):
  codeAny (model P w) callerA (.call (.ref fa) ⟨f_,[]⟩) (λ r s'=>∃u as,r=.ok (.ret u)/\ReadsW R cl s'.heap u d0 as/\OldK s₁.heap s'.heap/\s'.os=s₁.os/\Ic s'.gens) s₁:=by
 obtain⟨A,ho,ar⟩:=qU ds f_ ZN pc hwt;have EF:∀b∈cE.map (·.2),s₁.heap.get? b=some (tabObj #[]):=λ b hb=>by
  obtain⟨q,hq,rfl⟩:=cY.mp hb;exact(hT q hq).2
 have acT:∀b∈cE.map (·.2),b∉A:=λ b hb hm=>by
  obtain⟨vs,_,_,e|e⟩:=ar b hm
  .rw[EF b hb]at e;cases e
  .rw[EF b hb]at e;cases e
 have ZP:∀b∈cE.map (·.2),K.lookup b=none:=λ b hb=>by
  cases q:K.lookup b with
  |none=>rfl
  |some o=>
   have e:=KX b o q;rw[EF b hb]at e;cases e;have h2:=fG.mp hnT _ (PySem.W.mem_of_lookupK q);exact kf (show false=true from h2)
 have hO0:S9 (lh K s₁.heap A):=IF ar;have ZQ:qa P w (lh K s₁.heap A) s₁.heap:=Qv ar;have Tj:=z0 KX ar ds f_ ZN pc ho;have hV:=lf ho;have hK0:∀b u,lh K s₁.heap A b=some u ->K.lookup b=none:=λ b u q=>(vw ar q).1
 have ZR:∀b∈cE.map (·.2),lh K s₁.heap A b=none:=λ b hb=>by
  unfold lh;rw[ao (acT b hb)]
 have VN:∀b u,lh K s₁.heap A b=some u ->∃c vs,s₁.heap.get? b=some {cls:=c,data:=.seq vs}:=λ b u q=>by
  obtain⟨_,vs,_,_,⟨e2,_⟩|⟨e2,_⟩⟩:=vw ar q
  .exact⟨_,_,e2⟩
  .exact⟨_,_,e2⟩
 generalize hH0:lh K s₁.heap A=H0 at hO0 ZQ Tj hK0 ZR VN;obtain⟨H,hH⟩:=bS (VM (cE.map (·.2)) H0);have up:Vv H0 H:=λ b o e=>by
  rw[hH,Ch λ m=>by rw[ZR b m]at e;cases e];exact e
 have i9:∀b∈cE.map (·.2),H b=some (.tP #[]):=λ b m=>by rw[hH];exact QJ m
 have B8:∀b,b∉cE.map (·.2) ->H b=H0 b:=λ b m=>by rw[hH];exact Ch m
 have hO:Ci (cE.map (·.2)) H:=λ b=>by
  by_cases m:b∈cE.map (·.2)
  .exact .inl ⟨m,i9 b m⟩
  .refine .inr ⟨m,?_⟩;rw[B8 b m];exact hO0 b
 have db:qa P w H s₁.heap:=λ b u e=>by
  by_cases m:b∈cE.map (·.2)
  .rw[i9 b m]at e;cases e;exact EF b m
  .rw[B8 b m]at e;exact(ZQ b u e).sA (λ _ _ _ q=>q) (λ d q=>up _ _ q) λ d xs q=>up _ _ q
 have hS:jH K H (f_.map Bd) ds:=by
  have acU:∀{a:Addr}{xs:List V},aP K H0 a xs ->aP K H a xs:=λ h=>up.seq h
  have acV:∀{a:Addr}{xs:List V},e9 K H0 a xs ->e9 K H a xs:=λ h=>by
   rcases h with(h|⟨o,h⟩)|h
   .exact .inl (.inl (up _ _ h))
   .exact .inl (.inr ⟨o,up _ _ h⟩)
   .exact .inr h
  exact lN acU acV Tj
 have hK:∀b u,H b=some u ->K.lookup b=none:=λ b u e=>by
  by_cases m:b∈cE.map (·.2)
  .exact ZP b m
  .rw[B8 b m]at e;exact hK0 b u e
 have Qe:∀{b:Addr}{o:Obj}{es:Array DictEntry}{ep:Nat},s₁.heap.get? b=some o ->o.data=.dict es ep ->H b=none:=λ{b o es ep} e d=>by
  cases q:H b with
  |none=>rfl
  |some u=>
   by_cases m:b∈cE.map (·.2)
   .rw[EF b m]at e;cases e;cases d
   .rw[B8 b m]at q;obtain⟨c,vs,e2⟩:=VN b u q;rw[e2]at e;cases e;cases d
 have z_:∀{b:Addr}{o:Obj},s₁.heap.get? b=some o ->H b=none ->(xZ s₁.heap H).get? b=some o:=λ e n=>Km e n
 have nsK:∀{b:Addr}{m:Str ->Option aq},s₁.heap.Ns b m ->(xZ s₁.heap H).Ns b m:=λ{b m} ⟨o,es,ep,e,d,r⟩=>⟨o,es,ep,z_ e (Qe e d),d,r⟩
 have nK:∀b o,K.lookup b=some o ->H b=none:=λ b o e=>by
  cases q:H b with
  |none=>rfl
  |some u=>
   rw[hK b u q]at e;cases e
 have hKb:K.In (xZ s₁.heap H):=λ b o e=>z_ (KX b o e) (nK b o e)
 have hM:Mod K mg (xZ s₁.heap H):=⟨hKb,nsK rc,⟨mb,nsK hb,Xr⟩,let⟨mc,h1,h2⟩:=acS;⟨mc,nsK h1,h2⟩⟩;have e0:Eh P w K mg (xZ s₁.heap H) callerA [] s₁ H:=⟨rfl,hM,λ b o e=>Px e,Gc (Ib _ _),trivial,λ b hb=>absurd (show b∈([]:List Addr) from hb) aL,db,.of_eq hg⟩;have hl:f_.length=ps.length:=by rw[ke ZN];exact bH
 have acW:BU mg (xZ s₁.heap H):=by
  obtain⟨bm,ob,b1,b2,b3,b4,b5,b6,b7⟩:=hbm;refine⟨bm,ob,b1,b2,b3,z_ b4 ?_,b5,b6,b7⟩;cases q:H bm with
  |none=>rfl
  |some u=>
   by_cases m:bm∈cE.map (·.2)
   .rw[EF bm m]at b4;cases b4;cases b5
   .rw[B8 bm m]at q;obtain⟨c,vs,e2⟩:=VN bm u q;rw[e2]at b4;cases b4;cases b7
 refine Bx ((F _ hKb (nsK rc) acW).run callerA [] s₁ H ⟨f_,[]⟩ f_ (f_.map Bd) _ _ hr e0 (ZO s₁ f_ hl) hV (Pn H _ hO hS)) λ r s' x=>?_
 cases r with
 |error e=>exact(hCX H e s' x).elim
 |ok fl=>
  cases fl with
  |next=>exact jZ x
  |brk=>exact jZ x
  |cont=>exact jZ x
  |ret u=>
   obtain⟨v,H',os,jk,un,VO,r',q⟩:=x;have fw:∀b o,b∉cE.map (·.2) ->s₁.heap.get? b=some o ->s'.heap.get? b=some o:=λ b o m e=>by
    cases q2:H b with
    |none=>exact un.keep b o e q2 (by intro z;exact absurd (show b∈([]:List Addr) from z) aL) aL
    |some u2=>
     rcases hO b with⟨z,_⟩|⟨_,z|⟨ob,u3,z⟩⟩
     .exact absurd z m
     .rw[q2]at z;cases z
     .have z2:=un.xX b ob _ z;obtain⟨e1,_⟩:=db b _ z;obtain⟨e2,_⟩:=VO b _ z2;rw[e]at e1;cases e1;exact e2
   have KX':K.In s'.heap:=λ b o e=>fw b o (λ m=>by rw[ZP b m]at e;cases e) (KX b o e)
   have Tv:∀b∈cE.map (·.2),∃more:Array aq,s'.heap.get? b=some (tabObj (#[]++more)):=λ b m=>by
    obtain⟨more,e⟩:=un.xY b _ (i9 b m);exact⟨more,VO b _ e⟩
   have old:OldK s₁.heap s'.heap:=⟨λ b o e=>by
    by_cases m:b∈cE.map (·.2)
    .obtain⟨q3,hq3,eb⟩:=cY.mp m;obtain⟨more,e2⟩:=Tv b m;rw[EF b m]at e;cases e;refine .inr (.inl ⟨?_,rfl,#[],more,rfl,e2⟩);have:=((hT q3 hq3).1.tab (hT q3 hq3).2).isCodeTable;rw[<-eb];exact this
    .exact .inl (fw b o m e),λ b o e=>by
    by_cases m:b∈cE.map (·.2)
    .obtain⟨more,e2⟩:=Tv b m;exact⟨_,e2⟩
    .exact⟨o,fw b o m e⟩⟩
   obtain⟨as,EG⟩:=Dw.S7 (R:=R) (cl:=cl) VO KX' d0 v u q r';exact⟨u,as,rfl,EG,old,os,jk⟩
theorem walk_specT{r:OpenSpec}{k:Nat}{q:dz}{Tw:List Str}{XP:(Str ->Option aq) ->Heap ->Prop}{YP:c9 ->Heap ->Prop}{d:DefRec}{K:v9 ->aE}{CX:Kd}{ps:List Str}{sp:aE ->Sp}(cE:List (Addr×Addr))
  (ZT:r.wellSaid=true) (hdf:d.params.defaults=[]) (bH:r.args.length=ps.length) (hr:dR k callerA)
  (hY:∀(w:c9)(h:Heap),YP w h ->(K w.params).In h) (hnT:∀w:c9,ZM (K w.params)=true)
  (acX:∀(w:c9)(mean:ExcName ->Option aq)(mg mb:Str ->Option aq)(h:Heap),Top q (PySem.W.looseW q Tw) mean mg mb h ->(K w.params).In h ->TabsAt cE h)
  (F:∀(w:c9)(mg:Str ->Option aq)(fa:Addr)(h:Heap),YP w h ->(K w.params).In h ->h.Ns mainGlobals mg ->mg d.name=some (.ref fa) ->
   ∃fd:bp,(∀(s:ap)(us:List aq),us.length=ps.length ->Ge s fd ⟨us,[]⟩ (ps.zip us))/\
    ∀base:Heap,(K w.params).In base ->base.Ns mainGlobals mg ->BU mg base ->bj r.prog w (K w.params) mg base CX k fa fd ps (sp (K w.params)))
  (Pn:∀(K:aE)(H:Hp)(xs:List V)(a:Codec.denoteAll r.args),Ci (cE.map (·.2)) H ->Codec.withinAll r.args a=true ->Codec.app r.args r.asked a=true ->jH K H xs (Codec.encAll r.args a) ->
   sp K xs H (λ v H'=>Dw K H' v (r.ret.enc (Codec.app r.args r.f a))) λ _ _ _=>False)
  (hCX:∀(H:Hp)(s:ap)(e:aq)(s':ap),CX [] H s (λ _ _ _=>False) e s' ->False):
  PySem.W.WalkOS q Tw XP YP r d [] (λ f vs=>PySem.call f vs):=by
 intro w x8 s₁ mg mb G Y fa o pm cd doc dV kV ho hd D8 hD hmg hg args f_ as acY acZ EG ZN hlo;obtain⟨a,e1,e2⟩:=PySem.W.os_pre_some acY;obtain⟨e3,Vj⟩:=Codec.encAll_of_decAll r.args args a e1;subst e3;have KX:=hY w _ Y;obtain⟨fd,hb,hF⟩:=F w mg fa _ Y KX G.T.g hmg;have hbm:BU mg s₁.heap:=by
  obtain⟨bm,ob,b1,b2,b3,b4,b5,b6⟩:=G.T.bmain;refine⟨bm,ob,b1,b2,λ q=>?_,b3,b4,b5,b6⟩;obtain⟨o,es,ep,e,hd,_⟩:=G.T.g;rw[q,e]at b3;cases b3;rw[hd]at b6;cases b6
 refine PySem.W.enter_call (Bx (EE (R:=[]) (cl:=classAt x8.heap) (d0:=r.ret.enc (Codec.app r.args r.f a)) (cE:=cE) KX G.T.g G.T.b G.T.builtins G.T.nolimit hg (acX w _ mg mb _ G.T KX) (hnT w) ZN (yO _ _) (wa acZ) hr hbm hF hb (by rw[wb];exact bH)
  (λ H xs hO hS=>Pn (K w.params) H xs a hO Vj e2 hS) λ H e s'=>hCX H s₁ e s') λ r' s' hq=>?_)
 obtain⟨u,as',rfl,h1,h2,h3,h4⟩:=hq;exact⟨.inl ⟨u,_,as',rfl,λ _=>rfl,h1,(OpenSpec.post_iff ZT Vj _ _).mpr rfl,λ z=>kf (show false=true from z)⟩,h2,h3,h4⟩
end L2
namespace L2
open PySem PySem.Spec PyProof.Rows
section
variable{X:Cx}
theorem wq:X6 X (zQ X.K):=by
 intro pins s σ H x y v u Q I rx ry h;obtain⟨p,xs,i,z,rfl,rfl,hq,he,q⟩:=h;cases rx;obtain⟨t,rfl⟩:=ry;obtain⟨bb,r,pl,hz⟩:=I.list hq;obtain⟨j,h1,h2,h3,h4,h5⟩:=vt he;obtain⟨w,ew,Vl⟩:=r.get h2;have hl:=r.length;have hn:=sE;have fin:EP X pins σ Q w s:=⟨z,H,I,Vl,q⟩;by_cases h0:0<=i
 .have hj:i.toNat=j:=by
   rw[K9 h0 h5]at h1;exact cT h1
  exact wpAny_getItem_list pl.isList h0 ah (by rw[hj];simpa using ew) fin
 .have hj:(i+(bb.toArray.size:Int)).toNat=j:=by
   rw[seqIndex_neg ah h4]at h1;rw[cV,<-hl];exact cT h1
  exact Yu pl.isList ah (by rw[cV]<;>omega) ah (by rw[hj];simpa using ew) fin
end
theorem Cj{K:aE}{a:Addr}{xs:List V}{g:TG}{tb:TS}{D:vL}{σ:St}{H:Hp}(Pv:Nat ->St ->Hp ->Prop)(h0:Pv 0 σ H)(hl:∀i σ H,i<=xs.length ->Pv i σ H ->aP K H a xs)
  (hs:∀i x T σ H,xs[i]?=some x ->Pv i σ H ->H T=none ->g (.ref T) σ (aS H T (.fc [.int (i:Nat),x])) λ σ2 H2=>tb {D with nx:=Pv (i+1),ct:=Pv (i+1),bk:=D.nx} σ2 H2) (hd:∀σ H,Pv xs.length σ H ->D.nx σ H):
  ∃W:Nat ->Nat ->St ->Hp ->Prop,(∃m,W 0 m σ H)/\∀i m σ H,W i m σ H ->
   ((Xj K a).stop i H/\D.nx σ H)\/((Xj K a).go i H/\∃N:St ->Hp ->Prop,(∀σ' H',N σ' H' ->∃m',m'<m/\W (i+1) m' σ' H')/\∀x H',(Xj K a).zJ i H x H' ->g x σ H' λ σ2 H2=>tb {D with nx:=N,ct:=N,bk:=D.nx} σ2 H2):=by
 refine⟨λ i m σ H=>m=xs.length -i/\i<=xs.length/\Pv i σ H,⟨xs.length,by simp,ia _,h0⟩,?_⟩
 rintro i m σ H ⟨rfl,hi,p⟩
 have q:=hl i σ H hi p;by_cases dC:i<xs.length
 .refine .inr ⟨⟨xs,xs[i],q,by simp[dC]⟩,Pv (i+1),λ σ' H' p'=>⟨xs.length -(i+1),ah,rfl,dC,p'⟩,λ v H' y=>?_⟩;obtain⟨T,x,rfl,hT,rfl,e1⟩:=y;exact hs i x T σ H (e1 xs q) p hT
 .have e:i=xs.length:=by omega
  subst e;exact .inl ⟨⟨xs,q,ci _⟩,hd σ H p⟩
end L2
namespace JS
open PySem PySem.Spec PyProof.Rows L2
def dS(i:Nat):Stmt:=adP.main.body.getD i (.Pass ⟨0,0,0,0⟩)
abbrev jK:Stmt:=dS 1
abbrev lq:Stmt:=dS 2
abbrev rj:Stmt:=dS 3
abbrev wr:Stmt:=iB (dS 11) 0
abbrev yZ:Stmt:=dS 12
abbrev g6:Stmt:=dS 13
abbrev nZ:Stmt:=dS 22
abbrev Mf:Stmt:=dS 23
abbrev mB:Stmt:=dS 24
abbrev lO:Stmt:=dS 25
abbrev pQ:Stmt:=dS 26
abbrev lr:Stmt:=dS 27
abbrev rm:Stmt:=dS 28
abbrev n6:Stmt:=iB (dS 33) 0
abbrev Mg:Stmt:=dS 34
abbrev qk:Stmt:=dS 35
abbrev ls:Stmt:=dS 36
abbrev uh:Stmt:=dS 37
abbrev rn:Stmt:=dS 38
abbrev gb:Stmt:=dS 39
abbrev mC:Stmt:=dS 40
abbrev mD:Stmt:=dS 41
abbrev pR:Stmt:=dS 42
abbrev kh:Stmt:=dS 43
abbrev n8:Stmt:=dS 44
abbrev ki:Stmt:=dS 46
abbrev pT:Stmt:=dS 47
abbrev Ck:Stmt:=dS 48
abbrev lu:Stmt:=dS 49
abbrev jL:Stmt:=dS 50
abbrev wt:Stmt:=dS 52
abbrev jM:Stmt:=dS 53
abbrev i4:Stmt:=dS 54
abbrev lv:Stmt:=dS 55
abbrev wu:Stmt:=dS 56
abbrev ui:Stmt:=dS 64
abbrev rp:Stmt:=dS 65
abbrev uj:Stmt:=iB (dS 67) 0
abbrev mE:Stmt:=iB (dS 68) 0
abbrev n9:Stmt:=dS 69
abbrev uk:Stmt:=dS 70
abbrev jN:Stmt:=dS 71
abbrev i_:Stmt:=dS 72
abbrev lw:Stmt:=dS 73
abbrev kJ:Stmt:=dS 74
abbrev mF:Stmt:=dS 75
abbrev mG:Stmt:=dS 76
abbrev jO:Stmt:=dS 78
abbrev n_:Stmt:=iB (dS 80) 0
abbrev oa:Stmt:=dS 81
abbrev jo:Stmt:=dS 82
abbrev gc:Stmt:=dS 83
abbrev jP:Stmt:=dS 84
abbrev lP:Stmt:=dS 85
abbrev oe:Stmt:=dS 95
abbrev lQ:Stmt:=dS 96
abbrev mH:Stmt:=dS 97
abbrev og:Stmt:=dS 98
abbrev oh:Stmt:=dS 99
abbrev ql:Stmt:=dS 100
abbrev Mh:Stmt:=dS 101
abbrev GU:Stmt:=dS 102
abbrev Cm:Stmt:=dS 103
abbrev GV:Stmt:=dS 104
abbrev wv:Stmt:=dS 105
abbrev rq:Stmt:=dS 106
abbrev i5:Stmt:=dS 108
abbrev ul:Stmt:=iB (dS 123) 0
abbrev um:Stmt:=dS 124
abbrev pU:Stmt:=dS 125
abbrev uo:Stmt:=dS 126
abbrev GW:Stmt:=dS 127
abbrev ww:Stmt:=dS 128
abbrev GX:Stmt:=dS 129
abbrev rA:Stmt:=dS 130
abbrev Mi:Stmt:=dS 131
abbrev Cn:Stmt:=dS 132
abbrev GY:Stmt:=dS 133
abbrev Aa:Stmt:=dS 134
abbrev wx:Stmt:=dS 135
abbrev GZ:Stmt:=dS 136
abbrev wy:Stmt:=dS 137
abbrev y6:Stmt:=dS 138
abbrev G0:Stmt:=dS 139
abbrev wz:Stmt:=dS 141
abbrev pV:Stmt:=iB (dS 145) 0
abbrev kj:Stmt:=iB (dS 145) 1
abbrev kl:Stmt:=iB (dS 145) 2
abbrev jQ:Stmt:=iB (dS 145) 3
abbrev oW:Stmt:=dS 146
section
variable{N:List Str}{vs:List V}{k:Nat}{f:Str}{v:V}
theorem lR:∀{N:List Str}{vs:List V}{k:Nat}{f:Str}{v:V},N.Nodup ->N[k]?=some f ->vs[k]?=some v ->(N.zip vs).lookup f=some v
 |[],_,_,_,_,_,h,_=>by simp at h
 |_::_,[],_,_,_,_,_,h=>by simp at h
 |n::N,u::vs,0,f,v,_,h1,h2=>by
  simp at h1 h2;subst h1;subst h2;show pF n ((n,u)::N.zip vs)=some u;rw[qS];simp
 |n::N,u::vs,k+1,f,v,nd,h1,h2=>by
  have fZ:N[k]?=some f:=by simpa using h1
  have mY:vs[k]?=some v:=by simpa using h2
  have ne:f≠n:=λ e=>(mi.mp nd).1 (e▸cH fZ)
  show pF f ((n,u)::N.zip vs)=some v;rw[qS];have hb:(f==n)=false:=W9.mpr ne;rw[hb];exact lR (mi.mp nd).2 fZ mY
theorem vy:∀{N:List Str}{vs:List V}{k:Nat}{f:Str}{v:V},N.Nodup ->N[k]?=some f ->k<vs.length ->eE f v (N.zip vs)=N.zip (vs.set k v)
 |[],_,_,_,_,_,h,_=>by simp at h
 |_::_,[],_,_,_,_,_,h=>by simp at h
 |n::N,u::vs,0,f,v,_,h1,_=>by
  simp at h1;subst h1;show eE n v ((n,u)::N.zip vs)=(n,v)::N.zip vs;unfold eE;rw[au rfl]
 |n::N,u::vs,k+1,f,v,nd,h1,h2=>by
  have fZ:N[k]?=some f:=by simpa using h1
  have mY:k<vs.length:=by simpa using h2
  have ne:n≠f:=λ e=>(mi.mp nd).1 (e.symm▸cH fZ)
  show eE f v ((n,u)::N.zip vs)=(n,u)::N.zip (vs.set k v);rw[eE,ao ne,vy (mi.mp nd).2 fZ mY]
end
structure JV where
 bh:Int
 fR:Int
 urgency:Int
 shares:Int
 dX:Int
 rounds:Int
 parts:Addr
 aF:Int
 bX:Int
 left:Int
 bd:Int
 eC:Int
 turn:Int
 waited:Int
 used:Int
 level:Int
 cb:Int
 ran:Int
 oi:Int
 dF:Int
def JN:List Str:=["number","comes","urgency","shares","deadline","rounds","parts","stands","part","left","rounds_behind","wakes","turn","waited","used","level","pass_parts","ran","ended","longest_wait"]
theorem fT:JN.Nodup:=zq_dk
def JV.f_(j:JV):List V:=[.int j.bh,.int j.fR,.int j.urgency,.int j.shares,.int j.dX,.int j.rounds,.ref j.parts,.int j.aF,.int j.bX,.int j.left,.int j.bd,.int j.eC,.int j.turn,.int j.waited,.int j.used,.int j.level,.int j.cb,.int j.ran,.int j.oi,.int j.dF]
def JV.fs(j:JV):List (Str×V):=JN.zip j.f_
theorem JV.get(j:JV){k:Nat}{f:Str}{v:V}(h1:JN[k]?=some f)(h2:j.f_[k]?=some v):j.fs.lookup f=some v:=lR fT h1 h2
theorem JV.fU(j j':JV){k:Nat}{f:Str}{v:V}(h1:JN[k]?=some f)(h2:j.f_.set k v=j'.f_)(hk:k<20:=by decide):eE f v j.fs=j'.fs:=by
 unfold JV.fs;rw[vy fT h1 (by exact hk),h2]
theorem JV.len(j:JV):j.fs.length=20:=rfl
structure MV where
 policy:Int
 fH:Int
 age:Int
 boost:Int
 now:Int
 dI:Int
 turns:Int
 current:V
 jobs:Addr
 aB:Addr
def MN:List Str:=["policy","slice_ticks","age","boost","now","floor_parts","turns","current",uO,"runners"]
theorem mI:MN.Nodup:=zq_dk
def MV.f_(m:MV):List V:=[.int m.policy,.int m.fH,.int m.age,.int m.boost,.int m.now,.int m.dI,.int m.turns,m.current,.ref m.jobs,.ref m.aB]
def MV.fs(m:MV):List (Str×V):=MN.zip m.f_
theorem MV.get(m:MV){k:Nat}{f:Str}{v:V}(h1:MN[k]?=some f)(h2:m.f_[k]?=some v):m.fs.lookup f=some v:=lR mI h1 h2
theorem MV.fU(m m':MV){k:Nat}{f:Str}{v:V}(h1:MN[k]?=some f)(h2:m.f_.set k v=m'.f_)(hk:k<10:=by decide):eE f v m.fs=m'.fs:=by
 unfold MV.fs;rw[vy mI h1 (by exact hk),h2]
example(j:JV):j.fs.lookup ("left":Str)=some (.int j.left):=j.get (k:=9) rfl rfl
example(j:JV) (z:Int):eE ("left":Str) (.int z) j.fs={j with left:=z}.fs:=j.fU _ (k:=9) rfl rfl
def eN:Nat:=69720375229712477164533808935312303556800
structure uW(f:Mj):Prop where
 pos:0<f.d
 dvd:f.d∣eN
 low:eW f.n f.d=1
def fI(f:Mj):Nat:=f.n*(eN/f.d)
def bZ(i:Nat)(pa:Addr)(x:jR):JV where
 bh:=i
 fR:=x.come
 urgency:=x.urgency
 shares:=x.shares
 dX:=x.due
 rounds:=x.rounds
 parts:=pa
 aF:=G1 x.stand
 bX:=x.place
 left:=x.left
 bd:=x.round
 eC:=x.wake
 turn:=x.turn
 waited:=x.waited
 used:=x.used
 level:=x.level
 cb:=fI x.pass
 ran:=x.ran
 oi:=x.finish
 dF:=x.longest
def Co:Option Nat ->V
 |none=>.bu
 |some j=>.int j
def de(la ra:Addr)(m:ax):MV where
 policy:=m.policy
 fH:=m.slice
 age:=m.age
 boost:=m.boost
 now:=m.now
 dI:=fI m.floor
 turns:=m.turns
 current:=Co m.current
 jobs:=la
 aB:=ra
def dO:ZU ->Int
 |.work n=>n
 |.nap n=>-n
structure MA where
 ma:Addr
 la:Addr
 ra:Addr
 js:List Addr
 ps:List Addr
structure CA where
 cM:Addr
 cJ:Addr
 cE:List (Addr×Str)
def eA(C:CA)(H:Hp)(a:Addr)(j:JV):Prop:=∃dx,H a=some (.bD C.cJ dx j.fs)
def dG(C:CA)(H:Hp)(a:Addr)(m:MV):Prop:=∃dx,H a=some (.bD C.cM dx m.fs)
def jS(C:CA)(A:MA)(b:Addr):Prop:=b=A.ma\/b=A.la\/b=A.ra\/b∈A.js\/b∈A.ps
structure Txt(K:aE)(mg:Str ->Option aq)(C:CA):Prop where
 iX:sw K C.cM
 kK:sw K C.cJ
 nM:∀f∈MN,dD K C.cM f
 nJ:∀f∈JN,dD K C.cJ f
 int:∀p∈([("COMING",0),("READY",1),("ASLEEP",2),("DONE",3),("KILLED",4),("PASS_UNIT",69720375229712477164533808935312303556800),("IN_TURN",0),("BY_URGENCY",1),("BY_SHARES",2),("BY_DEADLINES",3),("LEAST_LEFT",4),("BY_LEVELS",5),("NOBODY",-1),("LAST_LEVEL",3)]:List (Str×Int)),∃t,mg p.1=some (.int p.2 t)
 bu:∀f∈(["max","min","len","sorted","range","zip","enumerate","list","all","any","sum"]:List Str),mg f=none
 lvl:∃t,mg "LEVEL_TICKS"=some (.ref t)/\∀H:Hp,e9 K H t [.int 1,.int 2,.int 4,.int 8]
theorem rF{K:aE}{H:Hp}{a C dx:Addr}{fs:List (Str×V)}{f:Str}{v:V}{Q:Addr ->Addr ->Addr ->List (Str×V) ->V ->Prop}(h:H a=some (.bD C dx fs))(c:sw K C)(n:dD K C f)(l:fs.lookup f=some v)(q:Q a C dx fs v):∃a' C' x_ fs v',V.ref a=.ref a'/\H a'=some (.bD C' x_ fs)/\sw K C'/\dD K C' f/\fs.lookup f=some v'/\Q a' C' x_ fs v':=⟨a,C,dx,fs,v,rfl,h,c,n,l,q⟩
theorem wF{K:aE}{H:Hp}{a C dx:Addr}{fs:List (Str×V)}{f:Str}{Q:Addr ->Addr ->Addr ->List (Str×V) ->Prop}(h:H a=some (.bD C dx fs))(c:sw K C)(n:dD K C f)(l:fs.length<1000)(q:Q a C dx fs):∃a' C' x_ fs,V.ref a=.ref a'/\H a'=some (.bD C' x_ fs)/\sw K C'/\dD K C' f/\fs.length<1000/\Q a' C' x_ fs:=⟨a,C,dx,fs,rfl,h,c,n,l,q⟩
theorem rJ{K:aE}{mg:Str ->Option aq}{C:CA}(T:Txt K mg C){H:Hp}{a dx:Addr}{j:JV}{f:Str}{v:V}{Q:Addr ->Addr ->Addr ->List (Str×V) ->V ->Prop}(h:H a=some (.bD C.cJ dx j.fs))(k:Nat)(h1:JN[k]?=some f)(h2:j.f_[k]?=some v)(q:Q a C.cJ dx j.fs v):∃a' C' x_ fs v',V.ref a=.ref a'/\H a'=some (.bD C' x_ fs)/\sw K C'/\dD K C' f/\fs.lookup f=some v'/\Q a' C' x_ fs v':=rF h T.kK (T.nJ _ (cH h1)) (j.get h1 h2) q
theorem rM{K:aE}{mg:Str ->Option aq}{C:CA}(T:Txt K mg C){H:Hp}{a dx:Addr}{j:MV}{f:Str}{v:V}{Q:Addr ->Addr ->Addr ->List (Str×V) ->V ->Prop}(h:H a=some (.bD C.cM dx j.fs))(k:Nat)(h1:MN[k]?=some f)(h2:j.f_[k]?=some v)(q:Q a C.cM dx j.fs v):∃a' C' x_ fs v',V.ref a=.ref a'/\H a'=some (.bD C' x_ fs)/\sw K C'/\dD K C' f/\fs.lookup f=some v'/\Q a' C' x_ fs v':=rF h T.iX (T.nM _ (cH h1)) (j.get h1 h2) q
theorem wJ{K:aE}{mg:Str ->Option aq}{C:CA}(T:Txt K mg C){H:Hp}{a dx:Addr}{j:JV}{f:Str}{Q:Addr ->Addr ->Addr ->List (Str×V) ->Prop}(h:H a=some (.bD C.cJ dx j.fs))(q:Q a C.cJ dx j.fs)(n:f∈JN:=by decide+kernel):∃a' C' x_ fs,V.ref a=.ref a'/\H a'=some (.bD C' x_ fs)/\sw K C'/\dD K C' f/\fs.length<1000/\Q a' C' x_ fs:=wF h T.kK (T.nJ _ n) (by rw[JV.len];decide) q
theorem wM{K:aE}{mg:Str ->Option aq}{C:CA}(T:Txt K mg C){H:Hp}{a dx:Addr}{j:MV}{f:Str}{Q:Addr ->Addr ->Addr ->List (Str×V) ->Prop}(h:H a=some (.bD C.cM dx j.fs))(q:Q a C.cM dx j.fs)(n:f∈MN:=by decide+kernel):∃a' C' x_ fs,V.ref a=.ref a'/\H a'=some (.bD C' x_ fs)/\sw K C'/\dD K C' f/\fs.length<1000/\Q a' C' x_ fs:=wF h T.iX (T.nM _ n) (by show(10:Nat)<1000;decide) q
structure dP(C:CA)(H H':Hp)(ma a:Addr)(m:MV)(j:JV):Prop where
 m:dG C H' ma m
 j:eA C H' a j
 fr:∀b o,H b=some o ->b≠ma ->b≠a ->H' b=some o
theorem G2{C:CA}{H:Hp}{ma a:Addr}{m:MV}{j:JV}(h1:dG C H ma m)(h2:eA C H a j):ma≠a:=by
 obtain⟨_,e1⟩:=h1;obtain⟨_,e2⟩:=h2;refine me e1 e2 λ z=>?_
 injection z with _ _ z3
 have z4:=congrArg nA z3;exact absurd z4 (by show¬(10:Nat)=20;decide)
section
variable{P:dz}{w:c9}{K:aE}{mg:Str ->Option aq}{base:Heap}{C:CA}{f:Addr}{fd:bp}
def qm(C:CA):Sp:=λ vs H Q _=>∃(ma a:Addr)(m:MV)(j:JV),vs=[.ref ma,.ref a]/\dG C H ma m/\eA C H a j/\∀H',dP C H H' ma a {m with turns:=m.turns+1} {j with turn:=m.turns} ->Q .bu H'
theorem QL(F:bi K "give_turn" uh f fd)(T:Txt K mg C):bj P w K mg base CX0 1 f fd [b8,dL] (qm C):=by
 refine F.ok [b8,dL] λ b_ A aA s H vs Q E hr h nd=>?_
 obtain⟨ma,a,m,j,rfl,⟨dm,hm⟩,⟨dj,hj⟩,k⟩:=h;have ne:ma≠a:=G2 ⟨dm,hm⟩ ⟨dj,hj⟩;refine⟨_,ab (aN (pv 1) (ai (pv 0) rfl) rfl) (af (dh (pv 0) am iZ)),?_⟩
 try dsimp only [bx,Cx.dJ]
 refine⟨_,rfl,rM T hm 6 rfl rfl ⟨_,rfl,wJ T hj ?_⟩⟩;rw[j.fU {j with turn:=m.turns} (k:=12) rfl rfl];refine⟨_,rfl,ma,C.cM,dm,_,_,rfl,(by rw[ag ne];exact hm),T.iX,T.nM _ zq_dk,m.get (k:=6) rfl rfl,_,_,rfl,rfl,dm,_,(by rw[ag ne];exact hm),bR,?_⟩;rw[m.fU {m with turns:=m.turns+1} (k:=6) rfl rfl];refine k _ ⟨⟨dm,aa⟩,⟨dj,by rw[ag ne.symm,aa]⟩,λ b o e n1 n2=>by rw[ag n1,ag n2];exact e⟩
theorem Txt.i(T:Txt K mg C){x:Str}{n:Int}(h:(x,n)∈([("COMING",0),("READY",1),("ASLEEP",2),("DONE",3),("KILLED",4),("PASS_UNIT",69720375229712477164533808935312303556800),("IN_TURN",0),("BY_URGENCY",1),("BY_SHARES",2),("BY_DEADLINES",3),("LEAST_LEFT",4),("BY_LEVELS",5),("NOBODY",-1),("LAST_LEVEL",3)]:List (Str×Int))):∃u,mg x=some u/\bT (.int n) u:=by
 obtain⟨t,e⟩:=T.int _ h;exact⟨_,e,t,rfl⟩
theorem cN{X:Cx}{x:Str}{n:Int}{pos:Pos}(h:∃u,X.mg x=some u/\bT (.int n) u)(hg:Gl X x)(hd:(x==("__debug__":Str))=false:=by decide):PE X (.Name x pos) (tC (.int n)):=by
 obtain⟨u,e,r⟩:=h;exact b9 hg e r hd
theorem gf{i j:Int}:decide (V.int i=V.int j)=decide (i=j):=by
 by_cases h:i=j
 .subst h;simp
 .simp[h]
def qo(C:CA):Sp:=λ vs H Q _=>∃(a:Addr)(j:JV),vs=[.ref a]/\eA C H a j/\Q (.bl (decide (j.aF=3)||decide (j.aF=4))) H
theorem QM(F:bi K "is_over" yZ f fd)(T:Txt K mg C):bj P w K mg base CX0 1 f fd [dL] (qo C):=by
 refine F.ok [dL] λ b_ A aA s H vs Q E hr h nd=>?_
 obtain⟨a,j,rfl,⟨dj,hj⟩,k⟩:=h;refine⟨_,af (aw (X1 (oU dM (ai (pv 0) rfl) (cN (T.i (n:=3) zq_dk) rfl) (aR _)) (Kt (oU dM (ai (pv 0) rfl) (cN (T.i (n:=4) zq_dk) rfl) (aR _))))),?_⟩
 try dsimp only [bx,Cx.dJ]
 refine⟨_,rfl,rJ T hj 7 rfl rfl ⟨rfl,_,rfl,?_⟩⟩;rw[gf];refine gP (λ h3=>?_) λ h3=>?_
 .rw[h3,Bool.true_or]at k;exact k
 .have Ab:decide (j.aF=3)=false:=by simpa using h3
  rw[Ab,Bool.false_or]at k;refine⟨_,rfl,rJ T hj 7 rfl rfl ⟨rfl,?_⟩⟩;show Q (.bl (decide (V.int j.aF=V.int 4))) H;rw[gf];exact k
def y8(m:MV)(j:JV):Int:=if m.age=0 then j.urgency else j.urgency+j.waited/m.age
def Ml(C:CA):Sp:=λ vs H Q _=>∃(ma a:Addr)(m:MV)(j:JV),vs=[.ref ma,.ref a]/\dG C H ma m/\eA C H a j/\0<=m.age/\m.age<1073741824/\Q (.int (y8 m j)) H
theorem QN(F:bi K "aged_urgency" nZ f fd)(T:Txt K mg C):bj P w K mg base CX0 1 f fd [b8,dL] (Ml C):=by
 refine F.ok [b8,dL] λ b_ A aA s H vs Q E hr h nd=>?_
 obtain⟨ma,a,m,j,rfl,⟨dm,hm⟩,⟨dj,hj⟩,a0,a1,k⟩:=h;refine⟨_,ab (br (aI dM (ai (pv 0) rfl) am (aR _)) (af (aw (ai (pv 1) rfl))) aK)
  (af (aw (bG eh (ai (pv 1) rfl) (bG lJ (ai (pv 1) rfl) (ai (pv 0) rfl))))),?_⟩
 try dsimp only [bx,Cx.dJ]
 refine⟨_,rfl,rM T hm 2 rfl rfl ⟨rfl,_,rfl,?_⟩⟩;rw[gf];refine gP (λ h3=>?_) λ h3=>?_
 .have Ab:m.age=0:=by simpa using h3
  unfold y8 at k;rw[au Ab]at k;exact⟨_,rfl,rJ T hj 2 rfl rfl k⟩
 .have Ab:¬m.age=0:=by simpa using h3
  unfold y8 at k;rw[ao Ab]at k;exact⟨_,rfl,a,C.cJ,dj,_,_,rfl,hj,T.kK,T.nJ _ zq_dk,j.get (k:=2) rfl rfl,_,rfl,a,C.cJ,dj,_,_,rfl,hj,T.kK,T.nJ _ zq_dk,j.get (k:=13) rfl rfl,
   _,rfl,ma,C.cM,dm,_,_,rfl,hm,T.iX,T.nM _ zq_dk,m.get (k:=2) rfl rfl,_,_,rfl,rfl,⟨ah,a1⟩,_,_,rfl,rfl,k⟩
def ZV(j:JV):List Int:=if j.dX=0 then [1,0,j.bh]else [0,j.fR+j.dX,j.bh]
def wA(H:Hp)(ns:List Int)(Q:VK):Prop:=∀p,H p=none ->Q (.ref p) (aS H p (.fc (ns.map V.int)))
def ZW(C:CA):Sp:=λ vs H Q _=>∃(a:Addr)(j:JV),vs=[.ref a]/\eA C H a j/\wA H (ZV j) Q
theorem ZX(F:bi K "deadline_rank" mB f fd)(T:Txt K mg C):bj P w K mg base CX0 1 f fd [dL] (ZW C):=by
 refine F.ok [dL] λ b_ A aA s H vs Q E hr h nd=>?_
 obtain⟨a,j,rfl,⟨dj,hj⟩,k⟩:=h;refine⟨_,ab (br (aI dM (ai (pv 0) rfl) am (aR _)) (af (aw (fE (jG am am (ai (pv 0) rfl))))) aK)
  (af (aw (fE (jG am (bG eh (ai (pv 0) rfl) (ai (pv 0) rfl)) (ai (pv 0) rfl))))),?_⟩
 try dsimp only [bx,Cx.dJ]
 refine⟨_,rfl,rJ T hj 4 rfl rfl ⟨rfl,_,rfl,?_⟩⟩;rw[gf];unfold wA ZV at k;refine gP (λ h3=>?_) λ h3=>?_
 .have Ab:j.dX=0:=by simpa using h3
  rw[au Ab]at k;exact⟨_,rfl,rJ T hj 0 rfl rfl ⟨(by show 3<=sizeLine;decide),k⟩⟩
 .have Ab:¬j.dX=0:=by simpa using h3
  rw[ao Ab]at k;exact⟨_,rfl,a,C.cJ,dj,_,_,rfl,hj,T.kK,T.nJ _ zq_dk,j.get (k:=1) rfl rfl,_,rfl,a,C.cJ,dj,_,_,rfl,hj,T.kK,T.nJ _ zq_dk,j.get (k:=4) rfl rfl,_,_,rfl,rfl,
   _,rfl,a,C.cJ,dj,_,_,rfl,hj,T.kK,T.nJ _ zq_dk,j.get (k:=0) rfl rfl,(by show 3<=sizeLine;decide),k⟩
def cF(P:dz)(w:c9)(K:aE)(mg:Str ->Option aq)(base:Heap)(x:Str)(ps:List Str)(k:Nat)(sp:Sp):Prop:=
 ∃(f:Addr)(fd:bp),mg x=some (.ref f)/\mh K (.ref f)=true/\j6 K fd ps []/\bj P w K mg base CX0 k f fd ps sp
theorem al{X:Cx}{x:Str}{ps:List Str}{k:Nat}{sp:Sp}{p pos:Pos}{e:Expr}{es:List Expr}{t:TA}(D:cF X.prog X.w X.K X.mg X.base x ps k sp)(hr:dR k X.A)(hg:Gl X x)(ha:PA X (e::es) t)
  (Ei:(x==("__debug__":Str))=false:=by decide) (he:starEach (e::es) X.aC=(false,eval e X.aC)::starEach es X.aC:=by rfl) (pc:(backTo pos (starEach es X.aC)).any (·.1)=false:=by rfl):
  PE X (.Call (.Name x p) (e::es) [] pos) (tCall sp [] E0 t):=by
 obtain⟨f,fd,hm,hk,hb,F⟩:=D;exact Qa F hr hg hm hk hb .nil yN ha Ei he pc
def gJ(m:MV)(j:JV):List Int:=
 if m.policy=0 then [if m.current=.int j.bh then 0 else 1,j.turn]
 else if m.policy=1 then [-(y8 m j),j.turn]
 else if m.policy=2 then [j.cb,j.turn]
 else if m.policy=3 then ZV j
 else if m.policy=4 then [j.left,j.bh]
 else [j.level,j.turn]
structure ye(m:MV):Prop where
 ZY:0<=m.age
 ZZ:m.age<1073741824
 QO:m.current=.bu\/∃i,m.current=.int i
 Mm:0<=m.boost
theorem ye.zN{m:MV}(h:ye m)(n:Int):zN m.current (.int n)=true:=by
 rcases h.QO with e|⟨i,e⟩<;>rw[e]<;>rfl
def wB(C:CA):Sp:=λ vs H Q _=>∃(ma a:Addr)(m:MV)(j:JV),vs=[.ref ma,.ref a]/\dG C H ma m/\eA C H a j/\ye m/\wA H (gJ m j) Q
theorem QP(F:bi K "rank" Mf f fd)(T:Txt K mg C)(D1:cF P w K mg base "aged_urgency" [b8,dL] 1 (Ml C))(D2:cF P w K mg base "deadline_rank" [dL] 1 (ZW C)):
  bj P w K mg base CX0 2 f fd [b8,dL] (wB C):=by
 refine F.ok [b8,dL] λ b_ A aA s H vs Q E hr h nd=>?_
 obtain⟨ma,a,m,j,rfl,⟨dm,hm⟩,⟨dj,hj⟩,ok,k⟩:=h;refine⟨_,ab (br (aI dM (ai (pv 0) rfl) (cN (T.i (n:=0) zq_dk) rfl) (aR _)) (af (aw (fE (bA (qG (aI dM (ai (pv 0) rfl) (ai (pv 1) rfl) (aR _)) am am) (ai (pv 1) rfl))))) aK)
  (ab (br (aI dM (ai (pv 0) rfl) (cN (T.i (n:=1) zq_dk) rfl) (aR _)) (af (aw (fE (bA (F6 zM (al D1 hr rfl (bA (pv 0) (pv 1)))) (ai (pv 1) rfl))))) aK)
  (ab (br (aI dM (ai (pv 0) rfl) (cN (T.i (n:=2) zq_dk) rfl) (aR _)) (af (aw (fE (bA (ai (pv 1) rfl) (ai (pv 1) rfl))))) aK)
  (ab (br (aI dM (ai (pv 0) rfl) (cN (T.i (n:=3) zq_dk) rfl) (aR _)) (af (aw (al D2 hr rfl (aO (pv 1))))) aK)
  (ab (br (aI dM (ai (pv 0) rfl) (cN (T.i (n:=4) zq_dk) rfl) (aR _)) (af (aw (fE (bA (ai (pv 1) rfl) (ai (pv 1) rfl))))) aK)
  (af (aw (fE (bA (ai (pv 1) rfl) (ai (pv 1) rfl))))))))),?_⟩
 try dsimp only [bx,Cx.dJ]
 unfold wA gJ at k;refine⟨_,rfl,rM T hm 0 rfl rfl ⟨rfl,_,rfl,?_⟩⟩;rw[gf];refine gP (λ h0=>?_) λ h0=>?_
 .have h0':m.policy=0:=by simpa using h0
  rw[au h0']at k;refine⟨_,rfl,rM T hm 7 rfl rfl ⟨_,rfl,rJ T hj 0 rfl rfl ⟨ok.zN _,_,rfl,?_⟩⟩⟩;refine gP (λ h1=>?_) λ h1=>?_
  .have fZ:m.current=.int j.bh:=by simpa using h1
   rw[au fZ]at k;exact⟨_,rfl,rJ T hj 12 rfl rfl ⟨(by show 2<=sizeLine;decide),k⟩⟩
  .have fZ:¬m.current=.int j.bh:=by simpa using h1
   rw[ao fZ]at k;exact⟨_,rfl,rJ T hj 12 rfl rfl ⟨(by show 2<=sizeLine;decide),k⟩⟩
 .have h0':¬m.policy=0:=by simpa using h0
  rw[ao h0']at k;refine⟨_,rfl,rM T hm 0 rfl rfl ⟨rfl,_,rfl,?_⟩⟩;rw[gf];refine gP (λ h1=>?_) λ h1=>?_
  .have fZ:m.policy=1:=by simpa using h1
   rw[au fZ]at k;exact⟨_,rfl,_,rfl,ma,a,m,j,rfl,⟨dm,hm⟩,⟨dj,hj⟩,ok.ZY,ok.ZZ,_,rfl,_,rfl,rJ T hj 12 rfl rfl ⟨(by show 2<=sizeLine;decide),k⟩⟩
  .have fZ:¬m.policy=1:=by simpa using h1
   rw[ao fZ]at k;refine⟨_,rfl,rM T hm 0 rfl rfl ⟨rfl,_,rfl,?_⟩⟩;rw[gf];refine gP (λ h2=>?_) λ h2=>?_
   .have mY:m.policy=2:=by simpa using h2
    rw[au mY]at k;exact⟨_,rfl,rJ T hj 16 rfl rfl ⟨_,rfl,rJ T hj 12 rfl rfl ⟨(by show 2<=sizeLine;decide),k⟩⟩⟩
   .have mY:¬m.policy=2:=by simpa using h2
    rw[ao mY]at k;refine⟨_,rfl,rM T hm 0 rfl rfl ⟨rfl,_,rfl,?_⟩⟩;rw[gf];refine gP (λ h3=>?_) λ h3=>?_
    .have Ab:m.policy=3:=by simpa using h3
     rw[au Ab]at k;exact⟨_,rfl,a,j,rfl,⟨dj,hj⟩,k⟩
    .have Ab:¬m.policy=3:=by simpa using h3
     rw[ao Ab]at k;refine⟨_,rfl,rM T hm 0 rfl rfl ⟨rfl,_,rfl,?_⟩⟩;rw[gf];refine gP (λ h4=>?_) λ h4=>?_
     .have QQ:m.policy=4:=by simpa using h4
      rw[au QQ]at k;exact⟨_,rfl,rJ T hj 9 rfl rfl ⟨_,rfl,rJ T hj 0 rfl rfl ⟨(by show 2<=sizeLine;decide),k⟩⟩⟩
     .have QQ:¬m.policy=4:=by simpa using h4
      rw[ao QQ]at k;exact⟨_,rfl,rJ T hj 15 rfl rfl ⟨_,rfl,rJ T hj 12 rfl rfl ⟨(by show 2<=sizeLine;decide),k⟩⟩⟩
theorem bn{H:Hp}{a:Addr}{o u:HO}:aS (aS H a o) a u=aS H a u:=by
 funext b
 by_cases h:b=a
 .subst h;rw[aa,aa]
 .rw[ag h,ag h,ag h]
structure lS(C:CA)(H:Hp)(la:Addr)(l:List (Addr×JV)):Prop where
 aD:H la=some (.aD (l.map λ p=>V.ref p.1))
 at_:∀p∈l,eA C H p.1 p.2
def qB(l:List (Addr×JV)):List (Addr×JV):=l.filter λ p=>decide (p.2.aF=1)
def gr(l:List (Addr×JV)):List V:=l.map λ p=>V.ref p.1
theorem lS.new{C:CA}{H:Hp}{la p:Addr}{o:HO}{l:List (Addr×JV)}(h:lS C H la l)(hp:H p=none):lS C (aS H p o) la l:=
 ⟨by rw[ag (aM h.aD hp)];exact h.aD,λ q hq=>by
  obtain⟨dx,e⟩:=h.at_ q hq;exact⟨dx,by rw[ag (aM e hp)];exact e⟩⟩
theorem kL{α β:Type}{f:α ->β}{p:α ->Bool}:∀{l:List α}{i:Nat}{x:α},l[i]?=some x ->((l.take (i+1)).filter p).map f=((l.take i).filter p).map f++(if p x=true then [f x]else [])
 |[],i,x,h=>by simp at h
 |a::l,0,x,h=>by
  have e:a=x:=cT h;subst e;show([a].filter p).map f=_;by_cases hp:p a=true
  .simp[hp]
  .simp[hp]
 |a::l,i+1,x,h=>by
  have ih:=kL (f:=f) (p:=p) (l:=l) (i:=i) (x:=x) h;show((a::l.take (i+1)).filter p).map f=((a::l.take i).filter p).map f++_;rw[gZ,gZ];by_cases hp:p a=true
  .rw[au hp,au hp,dW,dW,ih];rfl
  .rw[ao hp,ao hp,ih]
def vz(C:CA):Sp:=λ vs H Q _=>∃(ma:Addr)(m:MV)(l:List (Addr×JV)),vs=[.ref ma]/\dG C H ma m/\lS C H m.jobs l/\l.length<=16/\∀p,H p=none ->Q (.ref p) (aS H p (.aD (gr (qB l))))
theorem Mn(F:bi K "ready_jobs" lO f fd)(T:Txt K mg C):bj P w K mg base CX0 1 f fd [b8] (vz C):=by
 refine F.ok [b8,dL] λ b_ A aA s H vs Q E hr h nd=>?_
 obtain⟨ma,m,l,rfl,⟨dm,hm⟩,J,G5,k⟩:=h;refine⟨_,af (aw (iL (own:=[("job",1)]) (tt:=pE (tU rEq (gN K (bQ 1) "stands") (tC (.int 1)))) (te:=bQ 1) rfl nd (bF (ai (pv 0) rfl)) (bP (by show gW [b8,dL] (aJ lO) _ _=true;decide+kernel)) (λ _ _ _ _ _=>by exact aU (i:=1) nd rfl (aH rfl))
  (λ _ _ _ _ _=>by exact lL (aI dM (ai (pv 1) rfl) (cN (T.i (n:=1) zq_dk) rfl) (aR _))) (λ _ _ _ _ _=>by exact pv 1))),?_⟩
 try dsimp only [bx,Cx.dJ]
 refine⟨_,rfl,rM T hm 8 rfl rfl ⟨m.jobs,rfl,⟨_,aP.of J.aD⟩,λ D hD=>?_⟩⟩;refine qT (K:=K) (a:=m.jobs) (xs:=l.map λ p=>V.ref p.1) (λ i H'=>H'=aS H D (.aD (gr (qB (l.take i))))) rfl (λ i H' _ e=>?_) (λ i x H' hx e=>?_) (λ H' e=>?_)
 .subst e;exact aP.of (J.new hD).aD
 .subst e;obtain⟨⟨a,j⟩,hp,rfl⟩:∃p,l[i]?=some p/\x=V.ref p.1:=by
   rw[aT]at hx;cases q:l[i]?with
   |none=>rw[q]at hx;cases hx
   |some p=>rw[q]at hx;exact⟨p,rfl,(cT hx).symm⟩
  obtain⟨dj,Mo⟩:=J.at_ _ (cH hp);have hj:aS H D (.aD (gr (qB (l.take i)))) a=some (.bD C.cJ dj j.fs):=by rw[ag (aM Mo hD)];exact Mo
  have vo:gr (qB (l.take (i+1)))=gr (qB (l.take i))++(if decide (j.aF=1)=true then [V.ref a]else []):=kL (f:=λ p:Addr×JV=>V.ref p.1) (p:=λ p=>decide (p.2.aF=1)) hp;refine⟨rfl,_,rfl,rJ T hj 7 rfl rfl ⟨rfl,_,rfl,?_⟩⟩;rw[gf];refine gP (λ h1=>?_) λ h1=>?_
  .rw[au h1]at vo;refine⟨_,rfl,_,aa,?_,?_⟩
   .have h2:(gr (qB (l.take i))).length<=16:=by
     unfold gr qB;rw[ak];exact fB (G6 _ _) (fB (by rw[k7];exact Z0 _ _) G5)
    exact li h2 zq_dc
   .rw[bn,vo]
  .rw[ao h1,tZ]at vo;rw[vo]
 .rw[ak,km]at e;rw[e];exact k D hD
end
end JS
namespace L2
open PySem PySem.Spec PyProof.Rows
structure Cp(K:aE)(x qual:Str)(st:Stmt)(f:Addr)(fd:bp)(b_:aq):Prop where
 ex:∃(oc:aq)(od:Option Addr)(kV doc pm:aq)(an:Option Addr)(ct:aq)(yC:Array (Option aq)),
  fd=pG x qual (jm st) (gX st) (aJ st) .none kV doc pm an b_ ct/\K.lookup f=some ⟨oc,od,.func fd,yC⟩/\yD K b_ qual=true
theorem Cp.ok{P:dz}{w:c9}{K:aE}{mg:Str ->Option aq}{base:Heap}{x qual:Str}{st:Stmt}{f:Addr}{fd:bp}{b_:aq}{ps:List Str}{k:Nat}{sp:Sp}(F:Cp K x qual st f fd b_)(N:List Str)
  (k8:∀(A:cw)(aA:List Env)(s:ap)(H:Hp)(vs:List V)(Q:VK)(E:XK),dR k (A.deeper (envOfC qual (aJ st) s.heap.objs.size f b_)) ->sp vs H Q E ->N.Nodup ->
   ∃t,F5 (bx CX0 P w K mg base N qual (aJ st) f b_ A aA s H E).dJ (gX st) t/\t {nx:=λ _ H'=>Q .bu H',rt:=Q} (start N vs) H) (kind:(aJ st).kind=.function:=by rfl) (co:(aJ st).isCoroutine=false:=by rfl) (gen:(aJ st).isGenerator=false:=by rfl) (nd:N.Nodup:=by decide+kernel) (pre:N.take ps.length=ps:=by rfl) (K0:∀x∈ps,(aJ st).names.lookup x=some .local\/(aJ st).names.lookup x=some .cell:=by decide+kernel) (vT:∀y∈(aJ st).names,y.2≠.free:=by decide+kernel) (len:∀vs H Q E,sp vs H Q E ->vs.length=ps.length:=by exact YX):bj P w K mg base CX0 (k+1) f fd ps sp:=by
 obtain⟨oc,od,kV,doc,pm,an,ct,yC,rfl,lk,D8⟩:=F.ex;refine SY lk D8 ⟨kind,co,gen,nd,pre,K0,vT⟩ len λ A aA s H vs Q E hr Pn=>?_
 obtain⟨t,h,q⟩:=k8 A aA s H vs Q E hr Pn nd;exact⟨t,h.dJ,q⟩
def im(aC:Env):List (Str×gn) ->List (Str×Addr) ->Option (List (Str×Addr))
 |[],acc=>some acc
 |(n,k)::r,acc=>if(k==.free)=true then(match aC.cells.lookup n with|some c=>im aC r ((n,c)::acc)|none=>none)else im aC r acc
theorem gK{aC:Env}{n:Str}{k:gn}{r:List (Str×gn)}{acc:List (Str×Addr)}(h:(k==qR)=false):im aC ((n,k)::r) acc=im aC r acc:=by
 rw[im,ao (by rw[h];simp)]
theorem oj{aC:Env}{n:Str}{c:Addr}{r:List (Str×gn)}{acc:List (Str×Addr)}(h:aC.cells.lookup n=some c):im aC ((n,.free)::r) acc=im aC r ((n,c)::acc):=by
 rw[im,au (show(qR==qR)=true by decide),h]
theorem pW{scope:fz}{aC:Env}{cz:List (Str×Addr)}(h:im aC scope.names []=some cz):closureFor scope aC=pure cz:=by
 have go:∀(l:List (Str×gn))(acc cz:List (Str×Addr)),im aC l acc=some cz ->
   (forIn l acc λ(x:Str×gn) (cs:List (Str×Addr))=>(match x with|(name,kind)=>if(kind==.free)=true then do let c<-cellOf aC name;pure (BN ((name,c)::cs))else pure (BN cs):Sem (ForInStep (List (Str×Addr)))))=pure cz:=by
  intro l;induction l with
  |nil=>
   intro acc cz h;rw[ub];exact congrArg pure (cT h)
  |cons x r ih=>
   intro acc cz h;obtain⟨n,k⟩:=x;rw[v4];unfold im at h;by_cases hk:(k==qR)=true
   .rw[au hk]at h;simp only[hk,mo];cases hc:aC.cells.lookup n with
    |none=>rw[hc]at h;cases h
    |some c=>
     rw[hc]at h;have e:cellOf aC n=pure c:=by unfold cellOf;rw[hc]
     rw[e];simp only[pure_bind];exact ih _ _ h
   .rw[ao hk]at h;simp only[hk,pH,v6,pure_bind];exact ih _ _ h
 unfold closureFor;have:=go scope.names [] cz h;simpa using this
theorem wC{X:Cx}{p y:Str}{i:Nat}{params:nB}{body:Expr}{scope:fz}(h1:scope.kind=.function)(h2:scope.isCoroutine=false)(h3:scope.isGenerator=false)
  (h4:(scope.names.all λ q=>decide (q.2≠.cell)&&(decide (q.2≠.free)||decide (q.1=y)))=true) (h5:scope.names.lookup p=some .local) (h6:scope.names.lookup y=some .free)
  (h7:X.N[i]?=some y) (h8:X.aC.kindOf y=some .cell\/X.aC.kindOf y=some .free) (h9:∀c,X.aC.cells.lookup y=some c ->im X.aC scope.names []=some [(y,c)])
  (h10:defaultsOf params X.aC=([],[])) (h11:∀(qual:Str)(cz:List (Str×Addr))(pm cd wg u:aq),bindArgs (Z1 "<lambda>" qual params body scope cz pm cd wg) ⟨[u],[]⟩=pure [(p,u)]):
  jn X p [y] [i] params body scope:=by
 rw[fG]at h4;refine⟨h1,h2,h3,λ x hx=>?_,h5,λ j x hj=>?_,λ x hx=>?_,rfl,λ hc=>?_,h10,h11⟩
 .have:=h4 x hx;rw[bq,bc]at this;exact this.1
 .match j,hj with
  |0,hj=>
   have e:y=x:=cT hj;subst e;exact⟨h6,i,rfl,h7,h8⟩
  |j+1,hj=>simp at hj
 .have:=h4 _ (iJ hx);rw[bq,lc,bc,bc,bc]at this;rcases this.2 with z|z
  .exact absurd rfl z
  .exact z▸fM
 .obtain⟨c,hcy⟩:=hc y fM;refine⟨[(y,c)],pW (h9 c hcy),λ x c' hx=>?_,λ x c' hx Pz=>?_⟩
  .rw[qS]at hx;cases hb:x==y with
   |true=>rw[hb]at hx;cases hx;rw[eq_of_beq hb];exact hcy
   |false=>rw[hb]at hx;cases hx
  .have e:x=y:=by simpa using hx
   subst e;rw[hcy]at Pz;cases Pz;simp
theorem Mp{X:Cx}{p:Str}{params:nB}{body:Expr}{scope:fz}(h1:scope.kind=.function)(h2:scope.isCoroutine=false)(h3:scope.isGenerator=false)
  (h4:(scope.names.all λ q=>decide (q.2≠.cell)&&decide (q.2≠.free))=true) (h5:scope.names.lookup p=some .local) (h9:im X.aC scope.names []=some [])
  (h10:defaultsOf params X.aC=([],[])) (h11:∀(qual:Str)(cz:List (Str×Addr))(pm cd wg u:aq),bindArgs (Z1 "<lambda>" qual params body scope cz pm cd wg) ⟨[u],[]⟩=pure [(p,u)]):
  jn X p [] [] params body scope:=by
 rw[fG]at h4;refine⟨h1,h2,h3,λ x hx=>?_,h5,λ j x hj=>?_,λ x hx=>?_,rfl,λ hc=>?_,h10,h11⟩
 .have:=h4 x hx;rw[bq,bc]at this;exact this.1
 .simp at hj
 .have:=h4 _ (iJ hx);rw[bq,bc,bc]at this;exact absurd rfl this.2
 .refine⟨[],pW h9,?_,?_⟩
  .intro x c' hx;cases hx
  .intro x c' hx _;cases hx
end L2
namespace JS
open PySem PySem.Spec PyProof.Rows L2
def cj(C:CA)(H:Hp):Prop:=∀p∈C.cE,qj H p.1 p.2
section
variable{P:dz}{w:c9}{K:aE}{mg:Str ->Option aq}{base:Heap}{C:CA}
def mJ(m:MV)(l:List (Addr×JV)):List (List Int×V):=l.map λ p=>(gJ m p.2,V.ref p.1)
def wD(m:MV)(l:List (Addr×JV)):V:=match mJ m (qB l)with
 |[]=>.bu
 |b::r=>(pick HT.lexLt b r).2
def wE:Str:="first_ready"++".<locals>."++"<lambda>"
def G7(C:CA)(Pt:Addr):Sp:=λ vs H Q _=>∃(ma:Addr)(m:MV)(l:List (Addr×JV)),vs=[.ref ma]/\dG C H ma m/\lS C H m.jobs l/\l.length<=16/\ye m/\qj H Pt wE/\
 ∀H',cX Pt H H' ->qj H' Pt wE ->Q (wD m l) H'
theorem Mq{f Pt:Addr}{fd:bp}{b_:aq}(F:Cp K "first_ready" "first_ready" pQ f fd b_)(T:Txt K mg C)(hh:BV K mg base b_ Pt)(D1:cF P w K mg base "ready_jobs" [b8] 1 (vz C))(D2:cF P w K mg base "rank" [b8,dL] 2 (wB C)):
  bj P w K mg base CX0 6 f fd [b8] (G7 C Pt):=by
 refine F.ok [b8] λ A aA s H vs Q E hr h nd=>?_
 obtain⟨ma,m,l,rfl,hM,J,G5,ok,Tb,k⟩:=h;have IH:dR 1 _:=hr.bI zq_dc;refine⟨_,af (aw (B3 (Lv _) (P:=Pt) (p:="job") (fr:=[b8]) (ix:=[0]) (d:=.bu) (n:=3) (tb:=tCall (wB C) [] E0 (cB (bQ 1) (cB (bQ 0) ik))) rfl hr rfl (T.bu _ zq_dk) hh
  (wC rfl rfl rfl zq_dk rfl rfl rfl (aH rfl) (λ c hc=>(gK rfl).trans ((oj hc).trans ((gK rfl).trans rfl))) rfl (λ _ _ _ _ _ _=>rfl)) (al D1 IH rfl (aO (pv 0))) fC
  (λ f' cd cz s' H'=>by exact al (X:=qZ _ [dL,b8] _ _ f' cd cz _ s' H') D2 ((hr.in1.deeper _).bI zq_dc) rfl (bA (pv 1) (pv 0))))),?_⟩
 try dsimp only [bx,Cx.dJ]
 obtain⟨dm,hm⟩:=hM;refine⟨_,rfl,ma,m,l,rfl,⟨dm,hm⟩,J,G5,λ p hp=>?_⟩;have up:ae H (aS H p (.aD (gr (qB l)))):=λ b o e=>by rw[ag (aM e hp)];exact e
 obtain⟨ps,hP⟩:=Tb.is;refine⟨p,gr (qB l),(qB l).map λ q=>gJ m q.2,rfl,aP.of aa,(by unfold gr;rw[ak,ak]),Tb.ph up,λ i y ns H2 hy hn sp _=>?_,λ H2 v sp VP hv=>?_⟩
 .obtain⟨q,hq,rfl,rfl⟩:∃q,(qB l)[i]?=some q/\V.ref q.1=y/\gJ m q.2=ns:=by
   unfold gr at hy;rw[aT]at hy hn;cases e:(qB l)[i]?with
   |none=>rw[e]at hy;cases hy
   |some q=>rw[e]at hy hn;exact⟨q,rfl,cT hy,cT hn⟩
  have Z2:q∈l:=(ii.mp (cH hq)).1;obtain⟨dj,hj⟩:=J.at_ q Z2;have nP:∀{b:Addr}{cl dx:Addr}{fs:List (Str×V)},H b=some (.bD cl dx fs) ->H2 b=some (.bD cl dx fs):=λ{b cl dx fs} e=>sp b _ (up b _ e) λ z=>by rw[z,hP]at e;cases e
  exact⟨_,rfl,_,rfl,ma,q.1,m,q.2,rfl,⟨dm,nP hm⟩,⟨dj,nP hj⟩,ok,λ t ht=>⟨⟨t,rfl,e9.of aa⟩,λ b o e=>by rw[ag (aM e ht)];exact e⟩⟩
 .have hz:((qB l).map λ q=>gJ m q.2).zip (gr (qB l))=mJ m (qB l):=by
   unfold gr mJ;rw[Mr]
  have Pl:v=wD m l:=by
   rw[hz]at hv;unfold wD;cases e:mJ m (qB l)with
   |nil=>rw[e]at hv;exact hv
   |cons b r=>rw[e]at hv;exact hv
  rw[Pl];exact k H2 (λ b o e n=>sp b o (up b o e) n) VP
end
end JS
namespace JS
open PySem PySem.Spec PyProof.Rows L2
section
variable{P:dz}{w:c9}{K:aE}{mg:Str ->Option aq}{base:Heap}{C:CA}
theorem IP(m:MV)(l:List (Addr×JV)):(l.map λ q=>gJ m q.2).zip (gr l)=mJ m l:=by
 unfold gr mJ;rw[Mr]
theorem Ms(m:MV)(j:JV):gJ m j≠[]:=by
 unfold gJ ZV;intro h;split at h
 .cases h
 .split at h
  .cases h
  .split at h
   .cases h
   .split at h
    .split at h<;>cases h
    .split at h<;>cases h
def Mt:Str:="ready_in_order"++".<locals>."++"<lambda>"
def Tx(C:CA)(Pt:Addr):Sp:=λ vs H Q _=>∃(ma:Addr)(m:MV)(l:List (Addr×JV)),vs=[.ref ma]/\dG C H ma m/\lS C H m.jobs l/\l.length<=16/\ye m/\qj H Pt Mt/\
 ∀H' p,cX Pt H H' ->qj H' Pt Mt ->H' p=none ->Q (.ref p) (aS H' p (.aD ((MS.eI HT.lexLt (mJ m (qB l))).map (·.2))))
theorem VQ{f Pt:Addr}{fd:bp}{b_:aq}(F:Cp K "ready_in_order" "ready_in_order" lr f fd b_)(T:Txt K mg C)(hh:BV K mg base b_ Pt)(D1:cF P w K mg base "ready_jobs" [b8] 1 (vz C))(D2:cF P w K mg base "rank" [b8,dL] 2 (wB C)):
  bj P w K mg base CX0 7 f fd [b8] (Tx C Pt):=by
 refine F.ok [b8] λ A aA s H vs Q E hr h nd=>?_
 obtain⟨ma,m,l,rfl,⟨dm,hm⟩,J,G5,ok,Tb,k⟩:=h;have IH:dR 1 _:=hr.bI zq_dc;refine⟨_,af (aw (B_ (P:=Pt) (p:="job") (fr:=[b8]) (ix:=[0]) (n:=3) (tb:=tCall (wB C) [] E0 (cB (bQ 1) (cB (bQ 0) ik))) hr rfl (T.bu _ zq_dk) hh
  (wC rfl rfl rfl zq_dk rfl rfl rfl (aH rfl) (λ c hc=>(gK rfl).trans ((oj hc).trans ((gK rfl).trans rfl))) rfl (λ _ _ _ _ _ _=>rfl)) (al D1 IH rfl (aO (pv 0)))
  (λ f' cd cz s' H'=>by exact al (X:=qZ _ [dL,b8] _ _ f' cd cz _ s' H') D2 ((hr.in1.in1.deeper _).bI zq_dc) rfl (bA (pv 1) (pv 0))))),?_⟩
 try dsimp only [bx,Cx.dJ]
 refine⟨_,rfl,ma,m,l,rfl,⟨dm,hm⟩,J,G5,λ p hp=>?_⟩;have up:ae H (aS H p (.aD (gr (qB l)))):=λ b o e=>by rw[ag (aM e hp)];exact e
 obtain⟨ps,hP⟩:=Tb.is;refine⟨p,gr (qB l),(qB l).map λ q=>gJ m q.2,rfl,aP.of aa,(by unfold gr;rw[ak,ak]),(λ ns hn=>?_),Tb.ph up,λ i y ns H2 hy hn sp _=>?_,λ H2 t sp VP ht=>?_⟩
 .obtain⟨q,_,rfl⟩:=cY.mp hn;exact Ms m q.2
 .obtain⟨q,hq,rfl,rfl⟩:∃q,(qB l)[i]?=some q/\V.ref q.1=y/\gJ m q.2=ns:=by
   unfold gr at hy;rw[aT]at hy hn;cases e:(qB l)[i]?with
   |none=>rw[e]at hy;cases hy
   |some q=>rw[e]at hy hn;exact⟨q,rfl,cT hy,cT hn⟩
  have Z2:q∈l:=(ii.mp (cH hq)).1;obtain⟨dj,hj⟩:=J.at_ q Z2;have nP:∀{b:Addr}{cl dx:Addr}{fs:List (Str×V)},H b=some (.bD cl dx fs) ->H2 b=some (.bD cl dx fs):=λ{b cl dx fs} e=>sp b _ (up b _ e) λ z=>by rw[z,hP]at e;cases e
  exact⟨_,rfl,_,rfl,ma,q.1,m,q.2,rfl,⟨dm,nP hm⟩,⟨dj,nP hj⟩,ok,λ t ht=>⟨⟨t,rfl,e9.of aa⟩,λ b o e=>by rw[ag (aM e ht)];exact e⟩⟩
 .rw[IP];exact k H2 t (λ b o e n=>sp b o (up b o e) n) VP ht
def Bg(l:List (Addr×JV)):List (Addr×JV):=l.filter λ p=>decide (p.2.aF=2)
def EH(l:List (Addr×JV)):List (List Int×V):=l.map λ p=>([p.2.eC,p.2.turn],V.ref p.1)
def EI:Str:="sleepers_in_order"++".<locals>."++"<lambda>"
def Mu(C:CA)(Pt:Addr):Sp:=λ vs H Q _=>∃(ma:Addr)(m:MV)(l:List (Addr×JV)),vs=[.ref ma]/\dG C H ma m/\lS C H m.jobs l/\l.length<=16/\qj H Pt EI/\
 ∀H' p,cX Pt H H' ->qj H' Pt EI ->H' p=none ->Q (.ref p) (aS H' p (.aD ((MS.eI HT.lexLt (EH (Bg l))).map (·.2))))
theorem VR{f Pt:Addr}{fd:bp}{b_:aq}(F:Cp K "sleepers_in_order" "sleepers_in_order" gb f fd b_)(T:Txt K mg C)(hh:BV K mg base b_ Pt):
  bj P w K mg base CX0 7 f fd [b8] (Mu C Pt):=by
 refine F.ok [b8,"asleep",dL] λ A aA s H vs Q E hr h nd=>?_
 obtain⟨ma,m,l,rfl,⟨dm,hm⟩,J,G5,Tb,k⟩:=h;refine⟨_,ab (gq (i:=1) (own:=[("job",2)]) (tt:=pE (tU rEq (gN K (bQ 2) "stands") (tC (.int 2)))) (te:=bQ 2) rfl nd rfl rfl (iA rfl rfl rfl zq_dk) (bF (ai (pv 0) rfl))
   (bP (by show gW [b8,"asleep",dL] (aJ gb) _ _=true;decide+kernel)) (λ _ _ _ _ _=>by exact aU (i:=2) nd rfl (aH rfl))
   (λ _ _ _ _ _=>by exact lL (aI dM (ai (pv 2) rfl) (cN (T.i (n:=2) zq_dk) rfl) (aR _))) (λ _ _ _ _ _=>by exact pv 2))
  (af (aw (B_ (P:=Pt) (p:="job") (fr:=[]) (ix:=[]) (n:=3) (tb:=Vh (cB (gN K (bQ 0) "wakes") (cB (gN K (bQ 0) "turn") ik))) hr rfl (T.bu _ zq_dk) hh
   (Mp rfl rfl rfl zq_dk rfl (gK rfl) rfl (λ _ _ _ _ _ _=>rfl)) (pv 1)
   (λ f' cd cz s' H'=>by exact fE (bA (ai (pv (X:=qZ _ [dL] _ _ f' cd cz _ s' H') 0) rfl) (ai (pv 0) rfl)))))),?_⟩
 try dsimp only [bx,Cx.dJ]
 obtain⟨ps,hP⟩:=Tb.is;refine⟨_,rfl,rM T hm 8 rfl rfl ⟨m.jobs,rfl,⟨_,aP.of J.aD⟩,λ D hD=>?_⟩⟩;have up:∀xs,ae H (aS H D (.aD xs)):=λ xs b o e=>by rw[ag (aM e hD)];exact e
 refine qT (K:=K) (a:=m.jobs) (xs:=l.map λ p=>V.ref p.1) (λ i H'=>H'=aS H D (.aD (gr (Bg (l.take i))))) rfl (λ i H' _ e=>?_) (λ i x H' hx e=>?_) (λ H' e=>?_)
 .subst e;exact aP.of (J.new hD).aD
 .subst e;obtain⟨⟨a,j⟩,hp,rfl⟩:∃p,l[i]?=some p/\x=V.ref p.1:=by
   rw[aT]at hx;cases q:l[i]?with
   |none=>rw[q]at hx;cases hx
   |some p=>rw[q]at hx;exact⟨p,rfl,(cT hx).symm⟩
  obtain⟨dj,Mo⟩:=J.at_ _ (cH hp);have hj:aS H D (.aD (gr (Bg (l.take i)))) a=some (.bD C.cJ dj j.fs):=by rw[ag (aM Mo hD)];exact Mo
  have vo:gr (Bg (l.take (i+1)))=gr (Bg (l.take i))++(if decide (j.aF=2)=true then [V.ref a]else []):=kL (f:=λ p:Addr×JV=>V.ref p.1) (p:=λ p=>decide (p.2.aF=2)) hp;refine⟨rfl,_,rfl,rJ T hj 7 rfl rfl ⟨rfl,_,rfl,?_⟩⟩;rw[gf];refine gP (λ h1=>?_) λ h1=>?_
  .rw[au h1]at vo;refine⟨_,rfl,_,aa,?_,?_⟩
   .have h2:(gr (Bg (l.take i))).length<=16:=by
     unfold gr Bg;rw[ak];exact fB (G6 _ _) (fB (by rw[k7];exact Z0 _ _) G5)
    exact li h2 zq_dc
   .rw[bn,vo]
  .rw[ao h1,tZ]at vo;rw[vo]
 .rw[ak,km]at e;rw[e];refine⟨_,rfl,D,gr (Bg l),(Bg l).map λ q=>[q.2.eC,q.2.turn],rfl,aP.of aa,(by unfold gr;rw[ak,ak]),(λ ns hn=>?_),Tb.ph (up _),λ i y ns H2 hy hn sp _=>?_,λ H2 t sp VP ht=>?_⟩
  .obtain⟨q,_,rfl⟩:=cY.mp hn;exact List.cons_ne_nil _ _
  .obtain⟨q,hq,rfl,rfl⟩:∃q,(Bg l)[i]?=some q/\V.ref q.1=y/\[q.2.eC,q.2.turn]=ns:=by
    unfold gr at hy;rw[aT]at hy hn;cases e:(Bg l)[i]?with
    |none=>rw[e]at hy;cases hy
    |some q=>rw[e]at hy hn;exact⟨q,rfl,cT hy,cT hn⟩
   have Z2:q∈l:=(ii.mp (cH hq)).1;obtain⟨dj,hj⟩:=J.at_ q Z2;have sy:H2 q.1=some (.bD C.cJ dj q.2.fs):=sp _ _ (up _ _ _ hj) λ z=>by rw[z,hP]at hj;cases hj
   exact⟨_,rfl,rJ T sy 11 rfl rfl ⟨_,rfl,rJ T sy 12 rfl rfl ⟨(by show 2<=sizeLine;decide),λ t ht=>⟨⟨t,rfl,e9.of aa⟩,λ b o e=>by rw[ag (aM e ht)];exact e⟩⟩⟩⟩
  .have hz:((Bg l).map λ q=>[q.2.eC,q.2.turn]).zip (gr (Bg l))=EH (Bg l):=by
    unfold gr EH;rw[Mr]
   rw[hz];exact k H2 t (λ b o e n=>sp b o (up _ b o e) n) VP ht
def iN(m:MV):MV:={m with turns:=m.turns+1}
def mx(i j:Int):Int:=if j>i then j else i
def mn(i j:Int):Int:=if j<i then j else i
theorem dP.trans{C:CA}{H H1 H2:Hp}{ma a:Addr}{m1 m2:MV}{j1 j2:JV}(h1:dP C H H1 ma a m1 j1)(h2:dP C H1 H2 ma a m2 j2):dP C H H2 ma a m2 j2:=⟨h2.m,h2.j,λ b o e n1 n2=>h2.fr b o (h1.fr b o e n1 n2) n1 n2⟩
theorem dP.refl{C:CA}{H:Hp}{ma a:Addr}{m:MV}{j:JV}(h1:dG C H ma m)(h2:eA C H a j):dP C H H ma a m j:=⟨h1,h2,λ _ _ e _ _=>e⟩
theorem dP.gD{C:CA}{H:Hp}{ma a dj:Addr}{m:MV}{j:JV}{j':JV}(h1:dG C H ma m)(h2:eA C H a j):dP C H (aS H a (.bD C.cJ dj j'.fs)) ma a m j':=by
 have ne:=G2 h1 h2;obtain⟨dm,hm⟩:=h1;exact⟨⟨dm,by rw[ag ne];exact hm⟩,⟨dj,aa⟩,λ b o e _ n2=>by rw[ag n2];exact e⟩
theorem dP.EJ{C:CA}{H:Hp}{ma a dm:Addr}{m:MV}{j:JV}{m':MV}(h1:dG C H ma m)(h2:eA C H a j):dP C H (aS H ma (.bD C.cM dm m'.fs)) ma a m' j:=by
 have ne:=G2 h1 h2;obtain⟨dj,hj⟩:=h2;exact⟨⟨dm,aa⟩,⟨dj,by rw[ag ne.symm];exact hj⟩,λ b o e n1 _=>by rw[ag n1];exact e⟩
theorem dP.aD{C:CA}{H H':Hp}{ma a p:Addr}{m m0:MV}{j j0:JV}{xs:List V}(t:dP C H H' ma a m j)(h1:dG C H ma m0)(h2:eA C H a j0)(h:H p=some (.aD xs)):H' p=some (.aD xs):=by
 obtain⟨dm,hm⟩:=h1;obtain⟨dj,hj⟩:=h2;exact t.fr p _ h (me h hm (by intro z;cases z)) (me h hj (by intro z;cases z))
variable{f:Addr}{fd:bp}
def pX(m:MV)(j:JV)(v:Int):JV:={j with aF:=1,left:=v,waited:=0,used:=0,turn:=m.turns,cb:=mx j.cb m.dI}
def EK(C:CA):Sp:=λ vs H Q _=>∃(ma a:Addr)(m:MV)(j:JV)(ps:List Int)(n:Nat)(v:Int),vs=[.ref ma,.ref a]/\dG C H ma m/\eA C H a j/\H j.parts=some (.aD (ps.map V.int))/\j.bX=n/\ps[n]?=some v/\
 ∀H',dP C H H' ma a (iN m) (pX m j v) ->Q .bu H'
theorem QR(F:bi K "make_ready" rn f fd)(T:Txt K mg C)(D1:cF P w K mg base "give_turn" [b8,dL] 1 (qm C)):bj P w K mg base CX0 2 f fd [b8,dL] (EK C):=by
 refine F.ok [b8,dL] λ b_ A aA s H vs Q E hr h nd=>?_
 obtain⟨ma,a,m,j,ps,n,v,rfl,hM,⟨dj,hj⟩,Xs,hn,hv,k⟩:=h;refine⟨_,ab (aN (pv 1) (cN (T.i (n:=1) zq_dk) rfl) rfl) (ab (aN (pv 1) (bK be (ai (pv 1) rfl) (ai (pv 1) rfl) (λ _ _=>rfl)) rfl)
  (ab (aN (pv 1) am rfl) (ab (aN (pv 1) am rfl) (ab (bz (al D1 hr rfl (bA (pv 0) (pv 1))))
  (af (aN (pv 1) (aY (k4 rfl) rfl (T.bu _ zq_dk) (show bootBuiltins "max"=some (.builtin "max") by decide+kernel) (bA (ai (pv 1) rfl) (ai (pv 0) rfl))) rfl)))))),?_⟩
 try dsimp only [bx,Cx.dJ]
 refine⟨_,rfl,wJ T hj ?_⟩;rw[j.fU {j with aF:=1} (k:=7) rfl rfl];have t1:dP C H _ ma a m {j with aF:=1}:=dP.gD (dj:=dj) hM ⟨dj,hj⟩;generalize aS H a _=H1 at t1;have VS:H1 j.parts=some (.aD (ps.map V.int)):=t1.aD hM ⟨dj,hj⟩ Xs;obtain⟨wG,pq⟩:=t1.j;refine⟨_,rfl,rJ T pq 6 rfl rfl ⟨_,rfl,rJ T pq 8 rfl rfl ⟨j.parts,_,_,_,rfl,rfl,aP.of VS,(by rw[show({j with aF:=1}:JV).bX=n from hn];exact cG (by rw[aT,hv];rfl)),_,rfl,wJ T pq ?_⟩⟩⟩;rw[JV.fU {j with aF:=1} {j with aF:=1,left:=v} (k:=9) rfl rfl];have t2:dP C H _ ma a m {j with aF:=1,left:=v}:=t1.trans (dP.gD (dj:=wG) t1.m ⟨wG,pq⟩);generalize aS H1 a _=H2 at t2;obtain⟨Cq,sy⟩:=t2.j;refine⟨_,rfl,wJ T sy ?_⟩;rw[JV.fU {j with aF:=1,left:=v} {j with aF:=1,left:=v,waited:=0} (k:=13) rfl rfl];have t3:dP C H _ ma a m {j with aF:=1,left:=v,waited:=0}:=t2.trans (dP.gD (dj:=Cq) t2.m ⟨Cq,sy⟩);generalize aS H2 a _=H3 at t3;obtain⟨Kg,DS⟩:=t3.j;refine⟨_,rfl,wJ T DS ?_⟩;rw[JV.fU {j with aF:=1,left:=v,waited:=0} {j with aF:=1,left:=v,waited:=0,used:=0} (k:=14) rfl rfl];have t4:dP C H _ ma a m {j with aF:=1,left:=v,waited:=0,used:=0}:=t3.trans (dP.gD (dj:=Kg) t3.m ⟨Kg,DS⟩);generalize aS H3 a _=H4 at t4;refine⟨_,rfl,_,rfl,ma,a,m,{j with aF:=1,left:=v,waited:=0,used:=0},rfl,t4.m,t4.j,λ H5 t5=>?_⟩;have t6:=t4.trans t5;obtain⟨dm5,Xt⟩:=t6.m;obtain⟨dj5,Z3⟩:=t6.j;refine⟨_,rfl,rJ T Z3 16 rfl rfl ⟨_,rfl,rM T Xt 5 rfl rfl ⟨_,_,rfl,_,rfl,wJ T Z3 ?_⟩⟩⟩;have e:({j with aF:=1,left:=v,waited:=0,used:=0,turn:=m.turns}:JV).f_.set 16 (.int (if m.dI>j.cb then m.dI else j.cb))=(pX m j v).f_:=rfl;rw[JV.fU {j with aF:=1,left:=v,waited:=0,used:=0,turn:=m.turns} (pX m j v) (k:=16) rfl e];exact k _ (t6.trans (dP.gD (dj:=dj5) ⟨dm5,Xt⟩ ⟨dj5,Z3⟩))
def EL(m:MV)(j:JV)(nap:Int):JV:={j with aF:=2,eC:=m.now+1+nap,turn:=m.turns}
def EM(C:CA):Sp:=λ vs H Q _=>∃(ma a:Addr)(m:MV)(j:JV)(nap:Int),vs=[.ref ma,.ref a,.int nap]/\dG C H ma m/\eA C H a j/\∀H',dP C H H' ma a (iN m) (EL m j nap) ->Q .bu H'
theorem QS(F:bi K "fall_asleep" pT f fd)(T:Txt K mg C)(D1:cF P w K mg base "give_turn" [b8,dL] 1 (qm C)):bj P w K mg base CX0 2 f fd [b8,dL,"nap"] (EM C):=by
 refine F.ok [b8,dL,"nap"] λ b_ A aA s H vs Q E hr h nd=>?_
 obtain⟨ma,a,m,j,nap,rfl,hM,⟨dj,hj⟩,k⟩:=h;refine⟨_,ab (aN (pv 1) (cN (T.i (n:=2) zq_dk) rfl) rfl) (ab (aN (pv 1) (bG eh (bG eh (ai (pv 0) rfl) am) (pv 2)) rfl)
  (af (bz (al D1 hr rfl (bA (pv 0) (pv 1)))))),?_⟩
 try dsimp only [bx,Cx.dJ]
 refine⟨_,rfl,wJ T hj ?_⟩;rw[j.fU {j with aF:=2} (k:=7) rfl rfl];have t1:dP C H _ ma a m {j with aF:=2}:=dP.gD (dj:=dj) hM ⟨dj,hj⟩;generalize aS H a _=H1 at t1;obtain⟨wG,pq⟩:=t1.j;obtain⟨dm1,qC⟩:=t1.m;refine⟨_,rfl,rM T qC 4 rfl rfl ⟨_,_,rfl,rfl,_,rfl,_,_,rfl,rfl,_,rfl,wJ T pq ?_⟩⟩;rw[JV.fU {j with aF:=2} {j with aF:=2,eC:=m.now+1+nap} (k:=11) rfl rfl];have t2:dP C H _ ma a m {j with aF:=2,eC:=m.now+1+nap}:=t1.trans (dP.gD (dj:=wG) t1.m ⟨wG,pq⟩);generalize aS H1 a _=H2 at t2;exact⟨_,rfl,_,rfl,ma,a,m,{j with aF:=2,eC:=m.now+1+nap},rfl,t2.m,t2.j,λ H5 t5=>k H5 (t2.trans t5)⟩
def kM(m:MV)(j:JV)(v:Int):MV×JV:=if 0<v then(m,{j with left:=v})else(iN m,EL m j (-v))
def g7(m:MV)(j:JV)(ps:List Int):MV×JV:=
 if j.bX+1<ps.length then kM m {j with bX:=j.bX+1} (ps.getD (j.bX+1).toNat 0)
 else if j.bd+1<j.rounds then kM m {j with bX:=0,bd:=j.bd+1} (ps.getD 0 0)
 else(m,{j with aF:=3,oi:=m.now+1})
def Mv(C:CA):Sp:=λ vs H Q _=>∃(ma a:Addr)(m:MV)(j:JV)(ps:List Int),vs=[.ref ma,.ref a]/\dG C H ma m/\eA C H a j/\H j.parts=some (.aD (ps.map V.int))/\0<=j.bX/\ps≠[]/\
 ∀H',dP C H H' ma a (g7 m j ps).1 (g7 m j ps).2 ->Q .bu H'
theorem QT(F:bi K "begin_next_part" ki f fd)(T:Txt K mg C)(D1:cF P w K mg base "fall_asleep" [b8,dL,"nap"] 2 (EM C)):bj P w K mg base CX0 3 f fd [b8,dL] (Mv C):=by
 refine F.ok [b8,dL,"length"] λ b_ A aA s H vs Q E hr h nd=>?_
 obtain⟨ma,a,m,j,ps,rfl,hM,hJ,Xs,hp0,jD,k⟩:=h;refine⟨_,ab (br (aI tV (bG eh (ai (pv 1) rfl) am) (aY aW rfl (T.bu _ zq_dk) eX (aO (ai (pv 1) rfl))) (aR _))
   (af (dh (pv 1) am iZ))
   (af (br (aI tV (bG eh (ai (pv 1) rfl) am) (ai (pv 1) rfl) (aR _))
    (ab (aN (pv 1) am rfl) (af (dh (pv 1) am iZ)))
    (ab (aN (pv 1) (cN (T.i (n:=3) zq_dk) rfl) rfl) (ab (aN (pv 1) (bG eh (ai (pv 0) rfl) am) rfl) (af vn))))))
  (ab (bg (i:=2) nd rfl (aH rfl) (bK be (ai (pv 1) rfl) (ai (pv 1) rfl) (λ _ _=>rfl)))
  (af (br (aI kZ (pv 2) am (aR _)) (af (aN (pv 1) (pv 2) rfl)) (af (bz (al D1 hr rfl (jG (pv 0) (pv 1) (F6 zM (pv 2))))))))),?_⟩
 try dsimp only [bx,Cx.dJ]
 have cC:∀(H1:Hp)(j1:JV)(n:Nat)(v:Int),dP C H H1 ma a m j1 ->j1.parts=j.parts ->j1.bX=n ->ps[n]?=some v ->(∀H',dP C H H' ma a (kM m j1 v).1 (kM m j1 v).2 ->Q .bu H') ->
   U3 (PF (tU (zQ K) (gN K (bQ 1) "parts") (gN K (bQ 1) "part")) (nj 2)) (Kw (pE (tU (zL λ i j=>.bl (decide (j<i))) (bQ 2) (tC (.int 0)))) (Ye K (bQ 1) (bQ 2) "left") (Kv (tCall (EM C) [] E0 (cB (bQ 0) (cB (bQ 1) (cB (tUn (rU λ i=>.int (-i)) (bQ 2)) ik))))))
    {nx:=λ _ H'=>Q .bu H',rt:=Q} [some (.ref ma),some (.ref a),none] H1:=by
  intro H1 j1 n v t1 hp hn hv k1;obtain⟨wG,pq⟩:=t1.j;have VS:H1 j1.parts=some (.aD (ps.map V.int)):=by rw[hp];exact t1.aD hM hJ Xs
  refine⟨_,rfl,rJ T pq 6 rfl rfl ⟨_,rfl,rJ T pq 8 rfl rfl ⟨j1.parts,_,_,_,rfl,rfl,aP.of VS,(by rw[hn];exact cG (by rw[aT,hv];rfl)),?_⟩⟩⟩;refine⟨_,rfl,_,_,rfl,rfl,_,rfl,?_⟩;refine gP (λ h1=>?_) λ h1=>?_
  .have fZ:0<v:=by simpa using h1
   refine⟨_,rfl,_,rfl,wJ T pq ?_⟩;rw[j1.fU {j1 with left:=v} (k:=9) rfl rfl];have t2:dP C H _ ma a m {j1 with left:=v}:=t1.trans (dP.gD (dj:=wG) t1.m ⟨wG,pq⟩);refine k1 _ ?_;unfold kM;rw[au fZ];exact t2
  .have fZ:¬0<v:=by simpa using h1
   refine⟨_,rfl,_,rfl,_,rfl,_,rfl,ma,a,m,j1,-v,rfl,t1.m,⟨wG,pq⟩,λ H2 t2=>k1 _ ?_⟩;unfold kM;rw[ao fZ];exact t1.trans t2
 obtain⟨dj,hj⟩:=hJ;obtain⟨dm,hm⟩:=hM;refine⟨_,rfl,rJ T hj 8 rfl rfl ⟨_,_,rfl,rfl,_,rfl,rJ T hj 6 rfl rfl ⟨j.parts,ps.map V.int,rfl,.inl (aP.of Xs),_,_,rfl,rfl,_,rfl,?_⟩⟩⟩;rw[ak];refine gP (λ h1=>?_) λ h1=>?_
 .have fZ:j.bX+1<ps.length:=by simpa using h1
  refine⟨_,rfl,rJ T hj 8 rfl rfl ⟨_,_,rfl,rfl,dj,_,hj,(by rw[JV.len];decide),?_⟩⟩;rw[j.fU {j with bX:=j.bX+1} (k:=8) rfl rfl];have t1:dP C H _ ma a m {j with bX:=j.bX+1}:=dP.gD (dj:=dj) ⟨dm,hm⟩ ⟨dj,hj⟩;generalize aS H a _=H1 at t1;have dC:(j.bX+1).toNat<ps.length:=by omega
  refine cC H1 {j with bX:=j.bX+1} (j.bX+1).toNat (ps.getD (j.bX+1).toNat 0) t1 rfl (by show j.bX+1=_;omega) (by rw[aG,ay dC];rfl) λ H' t'=>k H' ?_
  unfold g7;rw[au fZ];exact t'
 .have fZ:¬j.bX+1<ps.length:=by simpa using h1
  refine⟨_,rfl,rJ T hj 10 rfl rfl ⟨_,_,rfl,rfl,_,rfl,rJ T hj 5 rfl rfl ⟨_,_,rfl,rfl,_,rfl,?_⟩⟩⟩;refine gP (λ h2=>?_) λ h2=>?_
  .have mY:j.bd+1<j.rounds:=by simpa using h2
   refine⟨_,rfl,wJ T hj ?_⟩;rw[j.fU {j with bX:=0} (k:=8) rfl rfl];have t1:dP C H _ ma a m {j with bX:=0}:=dP.gD (dj:=dj) ⟨dm,hm⟩ ⟨dj,hj⟩;generalize aS H a _=H1 at t1;obtain⟨wG,pq⟩:=t1.j;refine⟨_,rfl,rJ T pq 10 rfl rfl ⟨_,_,rfl,rfl,wG,_,pq,(by rw[JV.len];decide),?_⟩⟩;rw[JV.fU {j with bX:=0} {j with bX:=0,bd:=j.bd+1} (k:=10) rfl rfl];have t2:dP C H _ ma a m {j with bX:=0,bd:=j.bd+1}:=t1.trans (dP.gD (dj:=wG) t1.m ⟨wG,pq⟩);generalize aS H1 a _=H2 at t2;have h0:0<ps.length:=Mw.mpr jD;refine cC H2 {j with bX:=0,bd:=j.bd+1} 0 (ps.getD 0 0) t2 rfl rfl (by rw[aG,ay h0];rfl) λ H' t'=>k H' ?_
   unfold g7;rw[ao fZ,au mY];exact t'
  .have mY:¬j.bd+1<j.rounds:=by simpa using h2
   refine⟨_,rfl,wJ T hj ?_⟩;rw[j.fU {j with aF:=3} (k:=7) rfl rfl];have t1:dP C H _ ma a m {j with aF:=3}:=dP.gD (dj:=dj) ⟨dm,hm⟩ ⟨dj,hj⟩;generalize aS H a _=H1 at t1;obtain⟨wG,pq⟩:=t1.j;obtain⟨dm1,qC⟩:=t1.m;refine⟨_,rfl,rM T qC 4 rfl rfl ⟨_,_,rfl,rfl,_,rfl,wJ T pq ?_⟩⟩;rw[JV.fU {j with aF:=3} {j with aF:=3,oi:=m.now+1} (k:=18) rfl rfl];have t2:dP C H _ ma a m {j with aF:=3,oi:=m.now+1}:=t1.trans (dP.gD (dj:=wG) t1.m ⟨wG,pq⟩);refine k _ ?_;unfold g7;rw[ao fZ,ao mY];exact t2
def sS(m:MV)(j:JV):MV:={m with dI:=mx m.dI j.cb}
def wH(j:JV):JV:={j with left:=j.left -1,ran:=j.ran+1,waited:=0,used:=j.used+1,cb:=j.cb+69720375229712477164533808935312303556800/j.shares}
def eD(m:MV)(j:JV)(ps:List Int):MV×JV:=if j.left -1=0 then g7 (sS m j) (wH j) ps else(sS m j,wH j)
def TC(C:CA):Sp:=λ vs H Q _=>∃(ma a:Addr)(m:MV)(j:JV)(ps:List Int),vs=[.ref ma,.ref a]/\dG C H ma m/\eA C H a j/\H j.parts=some (.aD (ps.map V.int))/\0<=j.bX/\ps≠[]/\0<j.shares/\j.shares<1073741824/\
 ∀H',dP C H H' ma a (eD m j ps).1 (eD m j ps).2 ->Q .bu H'
theorem VT(F:bi K "run_one_tick" n8 f fd)(T:Txt K mg C)(D1:cF P w K mg base "begin_next_part" [b8,dL] 3 (Mv C)):bj P w K mg base CX0 4 f fd [b8,dL] (TC C):=by
 refine F.ok [b8,dL] λ b_ A aA s H vs Q E hr h nd=>?_
 obtain⟨ma,a,m,j,ps,rfl,⟨dm,hm⟩,⟨dj,hj⟩,Xs,hp0,jD,hs0,Pu,k⟩:=h;refine⟨_,ab (aN (pv 0) (aY (k4 rfl) rfl (T.bu _ zq_dk) (show bootBuiltins "max"=some (.builtin "max") by decide+kernel) (bA (ai (pv 0) rfl) (ai (pv 1) rfl))) rfl)
  (ab (dh (pv 1) am KR) (ab (dh (pv 1) am iZ) (ab (aN (pv 1) am rfl) (ab (dh (pv 1) am iZ)
  (ab (dh (pv 1) (bG lJ (cN (T.i (n:=69720375229712477164533808935312303556800) zq_dk) rfl) (ai (pv 1) rfl)) iZ)
  (af (br (aI dM (ai (pv 1) rfl) am (aR _)) (af (bz (al D1 hr rfl (bA (pv 0) (pv 1))))) aK))))))),?_⟩
 try dsimp only [bx,Cx.dJ]
 refine⟨_,rfl,rM T hm 5 rfl rfl ⟨_,rfl,rJ T hj 16 rfl rfl ⟨_,_,rfl,_,rfl,wM T hm ?_⟩⟩⟩;have e0:m.f_.set 5 (.int (if j.cb>m.dI then j.cb else m.dI))=(sS m j).f_:=rfl;rw[m.fU (sS m j) (k:=5) rfl e0];have t0:dP C H _ ma a (sS m j) j:=dP.EJ (dm:=dm) ⟨dm,hm⟩ ⟨dj,hj⟩;generalize aS H ma _=H0 at t0;obtain⟨dj0,Mo⟩:=t0.j;refine⟨_,rfl,rJ T Mo 9 rfl rfl ⟨_,_,rfl,rfl,dj0,_,Mo,(by rw[JV.len];decide),?_⟩⟩;rw[j.fU {j with left:=j.left -1} (k:=9) rfl rfl];have t1:dP C H _ ma a (sS m j) {j with left:=j.left -1}:=t0.trans (dP.gD (dj:=dj0) t0.m ⟨dj0,Mo⟩);generalize aS H0 a _=H1 at t1;obtain⟨wG,pq⟩:=t1.j;refine⟨_,rfl,rJ T pq 17 rfl rfl ⟨_,_,rfl,rfl,wG,_,pq,(by rw[JV.len];decide),?_⟩⟩;rw[JV.fU {j with left:=j.left -1} {j with left:=j.left -1,ran:=j.ran+1} (k:=17) rfl rfl];have t2:dP C H _ ma a (sS m j) {j with left:=j.left -1,ran:=j.ran+1}:=t1.trans (dP.gD (dj:=wG) t1.m ⟨wG,pq⟩);generalize aS H1 a _=H2 at t2;obtain⟨Cq,sy⟩:=t2.j;refine⟨_,rfl,wJ T sy ?_⟩;rw[JV.fU {j with left:=j.left -1,ran:=j.ran+1} {j with left:=j.left -1,ran:=j.ran+1,waited:=0} (k:=13) rfl rfl];have t3:dP C H _ ma a (sS m j) {j with left:=j.left -1,ran:=j.ran+1,waited:=0}:=t2.trans (dP.gD (dj:=Cq) t2.m ⟨Cq,sy⟩);generalize aS H2 a _=H3 at t3;obtain⟨Kg,DS⟩:=t3.j;refine⟨_,rfl,rJ T DS 14 rfl rfl ⟨_,_,rfl,rfl,Kg,_,DS,(by rw[JV.len];decide),?_⟩⟩;rw[JV.fU {j with left:=j.left -1,ran:=j.ran+1,waited:=0} {j with left:=j.left -1,ran:=j.ran+1,waited:=0,used:=j.used+1} (k:=14) rfl rfl];have t4:dP C H _ ma a (sS m j) {j with left:=j.left -1,ran:=j.ran+1,waited:=0,used:=j.used+1}:=t3.trans (dP.gD (dj:=Kg) t3.m ⟨Kg,DS⟩);generalize aS H3 a _=H4 at t4;obtain⟨dj4,TF⟩:=t4.j;refine⟨_,rfl,rJ T TF 16 rfl rfl ⟨_,rfl,rJ T TF 3 rfl rfl ⟨_,_,rfl,rfl,⟨hs0,Pu⟩,_,_,rfl,rfl,dj4,_,TF,(by rw[JV.len];decide),?_⟩⟩⟩;have e5:({j with left:=j.left -1,ran:=j.ran+1,waited:=0,used:=j.used+1}:JV).f_.set 16 (.int (j.cb+69720375229712477164533808935312303556800/j.shares))=(wH j).f_:=rfl;rw[JV.fU {j with left:=j.left -1,ran:=j.ran+1,waited:=0,used:=j.used+1} (wH j) (k:=16) rfl e5];have t5:dP C H _ ma a (sS m j) (wH j):=t4.trans (dP.gD (dj:=dj4) t4.m ⟨dj4,TF⟩);generalize aS H4 a _=H5 at t5;obtain⟨dj5,Z3⟩:=t5.j;have ac0:H5 (wH j).parts=some (.aD (ps.map V.int)):=t5.aD ⟨dm,hm⟩ ⟨dj,hj⟩ Xs;refine⟨_,rfl,rJ T Z3 9 rfl rfl ⟨rfl,_,rfl,?_⟩⟩;rw[gf];refine gP (λ h1=>?_) λ h1=>?_
 .have fZ:j.left -1=0:=G8 (p:=(wH j).left=0) h1;refine⟨_,rfl,_,rfl,ma,a,sS m j,wH j,ps,rfl,t5.m,t5.j,ac0,hp0,jD,λ H6 t6=>k _ ?_⟩;unfold eD;rw[au fZ];exact t5.trans t6
 .have fZ:¬j.left -1=0:=λ z=>h1 (bO (p:=(wH j).left=0) z)
  refine k _ ?_;unfold eD;rw[ao fZ];exact t5
def iD(m:MV)(j:JV):MV×JV:=if m.fH<=j.used then(iN m,{j with used:=0,turn:=m.turns})else({m with current:=.int j.bh},j)
def Mx(C:CA):Sp:=λ vs H Q _=>∃(ma a:Addr)(m:MV)(j:JV),vs=[.ref ma,.ref a]/\dG C H ma m/\eA C H a j/\∀H',dP C H H' ma a (iD m j).1 (iD m j).2 ->Q .bu H'
theorem QU(F:bi K "settle_in_turn" lu f fd)(T:Txt K mg C)(D1:cF P w K mg base "give_turn" [b8,dL] 1 (qm C)):bj P w K mg base CX0 2 f fd [b8,dL] (Mx C):=by
 refine F.ok [b8,dL] λ b_ A aA s H vs Q E hr h nd=>?_
 obtain⟨ma,a,m,j,rfl,⟨dm,hm⟩,⟨dj,hj⟩,k⟩:=h;refine⟨_,af (br (aI Bv (ai (pv 1) rfl) (ai (pv 0) rfl) (aR _)) (ab (aN (pv 1) am rfl) (af (bz (al D1 hr rfl (bA (pv 0) (pv 1))))))
  (af (aN (pv 0) (ai (pv 1) rfl) rfl))),?_⟩
 try dsimp only [bx,Cx.dJ]
 refine⟨_,rfl,rJ T hj 14 rfl rfl ⟨_,rfl,rM T hm 1 rfl rfl ⟨_,_,rfl,rfl,_,rfl,?_⟩⟩⟩;refine gP (λ h1=>?_) λ h1=>?_
 .have fZ:m.fH<=j.used:=by simpa using h1
  refine⟨_,rfl,wJ T hj ?_⟩;rw[j.fU {j with used:=0} (k:=14) rfl rfl];have t1:dP C H _ ma a m {j with used:=0}:=dP.gD (dj:=dj) ⟨dm,hm⟩ ⟨dj,hj⟩;generalize aS H a _=H1 at t1;refine⟨_,rfl,_,rfl,ma,a,m,{j with used:=0},rfl,t1.m,t1.j,λ H5 t5=>k H5 ?_⟩;unfold iD;rw[au fZ];exact t1.trans t5
 .have fZ:¬m.fH<=j.used:=by simpa using h1
  refine⟨_,rfl,rJ T hj 0 rfl rfl ⟨_,rfl,wM T hm ?_⟩⟩;rw[m.fU {m with current:=.int j.bh} (k:=7) rfl rfl];refine k _ ?_;unfold iD;rw[ao fZ];exact dP.EJ (dm:=dm) ⟨dm,hm⟩ ⟨dj,hj⟩
def Ac(n:Int):Int:=([1,2,4,8]:List Int).getD n.toNat 0
def kN(m:MV)(j:JV):MV×JV:=if Ac j.level<=j.used then(iN m,{j with used:=0,level:=mn (j.level+1) 3,turn:=m.turns})else(m,j)
def My(C:CA):Sp:=λ vs H Q _=>∃(ma a:Addr)(m:MV)(j:JV),vs=[.ref ma,.ref a]/\dG C H ma m/\eA C H a j/\0<=j.level/\j.level<=3/\∀H',dP C H H' ma a (kN m j).1 (kN m j).2 ->Q .bu H'
theorem QV(F:bi K "settle_by_levels" jL f fd)(T:Txt K mg C)(D1:cF P w K mg base "give_turn" [b8,dL] 1 (qm C)):bj P w K mg base CX0 2 f fd [b8,dL] (My C):=by
 refine F.ok [b8,dL] λ b_ A aA s H vs Q E hr h nd=>?_
 obtain⟨ma,a,m,j,rfl,⟨dm,hm⟩,⟨dj,hj⟩,l0,l3,k⟩:=h;obtain⟨tl,htl,hsq⟩:=T.lvl;refine⟨_,af (br (aI Bv (ai (pv 1) rfl) (bK qg (b9 (v:=.ref tl) rfl htl rfl) (ai (pv 1) rfl) (λ _ _=>rfl)) (aR _)) (ab (aN (pv 1) am rfl)
  (ab (aN (pv 1) (aY (Ir rfl) rfl (T.bu _ zq_dk) (show bootBuiltins "min"=some (.builtin "min") by decide+kernel) (bA (bG eh (ai (pv 1) rfl) am) (cN (T.i (n:=3) zq_dk) rfl))) rfl)
  (af (bz (al D1 hr rfl (bA (pv 0) (pv 1))))))) aK),?_⟩
 try dsimp only [bx,Cx.dJ]
 have jY:ml ([.int 1,.int 2,.int 4,.int 8]:List V) j.level=some (.int (Ac j.level)):=by
  have hl:j.level=0\/j.level=1\/j.level=2\/j.level=3:=by omega
  unfold Ac;rcases hl with e|e|e|e<;>rw[e]<;>rfl
 refine⟨_,rfl,rJ T hj 14 rfl rfl ⟨_,rfl,rJ T hj 15 rfl rfl ⟨tl,_,_,_,rfl,rfl,hsq H,jY,_,_,rfl,rfl,_,rfl,?_⟩⟩⟩;refine gP (λ h1=>?_) λ h1=>?_
 .have fZ:Ac j.level<=j.used:=by simpa using h1
  refine⟨_,rfl,wJ T hj ?_⟩;rw[j.fU {j with used:=0} (k:=14) rfl rfl];have t1:dP C H _ ma a m {j with used:=0}:=dP.gD (dj:=dj) ⟨dm,hm⟩ ⟨dj,hj⟩;generalize aS H a _=H1 at t1;obtain⟨wG,pq⟩:=t1.j;refine⟨_,rfl,rJ T pq 15 rfl rfl ⟨_,_,rfl,rfl,_,_,rfl,_,rfl,wJ T pq ?_⟩⟩;have e:({j with used:=0}:JV).f_.set 15 (.int (if(3:Int)<j.level+1 then 3 else j.level+1))=({j with used:=0,level:=mn (j.level+1) 3}:JV).f_:=rfl;rw[JV.fU {j with used:=0} {j with used:=0,level:=mn (j.level+1) 3} (k:=15) rfl e];have t2:dP C H _ ma a m {j with used:=0,level:=mn (j.level+1) 3}:=t1.trans (dP.gD (dj:=wG) t1.m ⟨wG,pq⟩);generalize aS H1 a _=H2 at t2;refine⟨_,rfl,_,rfl,ma,a,m,{j with used:=0,level:=mn (j.level+1) 3},rfl,t2.m,t2.j,λ H5 t5=>k H5 ?_⟩;unfold kN;rw[au fZ];exact t2.trans t5
 .have fZ:¬Ac j.level<=j.used:=by simpa using h1
  refine k _ ?_;unfold kN;rw[ao fZ];exact dP.refl ⟨dm,hm⟩ ⟨dj,hj⟩
def cq(m0:MV)(j:JV):MV×JV:=
 let m:MV:={m0 with current:=.bu}
 if¬j.aF=1 then(m,j)
 else if m.policy=0 then iD m j
 else if m.policy=1\/m.policy=2 then(iN m,{j with turn:=m.turns})
 else if m.policy=5 then kN m j
 else(m,j)
def Cr(C:CA):Sp:=λ vs H Q _=>∃(ma a:Addr)(m:MV)(j:JV),vs=[.ref ma,.ref a]/\dG C H ma m/\eA C H a j/\0<=j.level/\j.level<=3/\∀H',dP C H H' ma a (cq m j).1 (cq m j).2 ->Q .bu H'
theorem IQ(F:bi K "settle" Ck f fd)(T:Txt K mg C)(D1:cF P w K mg base "give_turn" [b8,dL] 1 (qm C))(D2:cF P w K mg base "settle_in_turn" [b8,dL] 2 (Mx C))(D3:cF P w K mg base "settle_by_levels" [b8,dL] 2 (My C)):bj P w K mg base CX0 3 f fd [b8,dL] (Cr C):=by
 refine F.ok [b8,dL] λ b_ A aA s H vs Q E hr h nd=>?_
 obtain⟨ma,a,m0,j,rfl,⟨dm,hm⟩,⟨dj,hj⟩,l0,l3,k⟩:=h;refine⟨_,ab (aN (pv 0) fC rfl) (ab (br (aI Bu (ai (pv 1) rfl) (cN (T.i (n:=1) zq_dk) rfl) (aR _)) (af vn) aK)
  (af (br (aI dM (ai (pv 0) rfl) (cN (T.i (n:=0) zq_dk) rfl) (aR _)) (af (bz (al D2 hr rfl (bA (pv 0) (pv 1)))))
   (af (br (PW.pt (tT (aI dM (ai (pv 0) rfl) (cN (T.i (n:=1) zq_dk) rfl) (aR _)) (m_ (aI dM (ai (pv 0) rfl) (cN (T.i (n:=2) zq_dk) rfl) (aR _))))) (af (bz (al D1 (hr.bI zq_dc) rfl (bA (pv 0) (pv 1)))))
    (af (br (aI dM (ai (pv 0) rfl) (cN (T.i (n:=5) zq_dk) rfl) (aR _)) (af (bz (al D3 hr rfl (bA (pv 0) (pv 1))))) aK))))))),?_⟩
 try dsimp only [bx,Cx.dJ]
 refine⟨_,rfl,wM T hm ?_⟩;rw[m0.fU {m0 with current:=.bu} (k:=7) rfl rfl];have t1:dP C H _ ma a {m0 with current:=.bu} j:=dP.EJ (dm:=dm) ⟨dm,hm⟩ ⟨dj,hj⟩;generalize aS H ma _=H1 at t1;obtain⟨m,hmm⟩:∃m:MV,m={m0 with current:=.bu}:=⟨_,rfl⟩;have k':∀H',dP C H H' ma a (if¬j.aF=1 then(m,j)else if m.policy=0 then iD m j else if m.policy=1\/m.policy=2 then(iN m,{j with turn:=m.turns})else if m.policy=5 then kN m j else(m,j)).1 (if¬j.aF=1 then(m,j)else if m.policy=0 then iD m j else if m.policy=1\/m.policy=2 then(iN m,{j with turn:=m.turns})else if m.policy=5 then kN m j else(m,j)).2 ->Q .bu H':=λ H' t=>k H' (by unfold cq;rw[<-hmm];exact t)
 rw[<-hmm]at t1;clear k hm hj hmm;obtain⟨dj,hj⟩:=t1.j;obtain⟨dm,hm⟩:=t1.m;refine⟨_,rfl,rJ T hj 7 rfl rfl ⟨rfl,_,rfl,?_⟩⟩;rw[gf];refine gP (λ h1=>?_) λ h1=>?_
 .have fZ:¬j.aF=1:=by simpa using h1
  refine k' _ ?_;rw[au fZ];exact t1
 .have fZ:¬¬j.aF=1:=by simpa using h1
  refine⟨_,rfl,rM T hm 0 rfl rfl ⟨rfl,_,rfl,?_⟩⟩;rw[gf];refine gP (λ h2=>?_) λ h2=>?_
  .have mY:m.policy=0:=by simpa using h2
   refine⟨_,rfl,_,rfl,ma,a,m,j,rfl,⟨dm,hm⟩,⟨dj,hj⟩,λ H5 t5=>k' H5 ?_⟩;rw[ao fZ,au mY];exact t1.trans t5
  .have mY:¬m.policy=0:=by simpa using h2
   refine⟨_,rfl,rM T hm 0 rfl rfl ⟨rfl,_,rfl,?_⟩⟩;rw[gf];have Z4:(m.policy=1\/m.policy=2) ->Kv (tCall (qm C) [] E0 (cB (bQ 0) (cB (bQ 1) ik))) {nx:=λ _ H'=>Q .bu H',rt:=Q} [some (.ref ma),some (.ref a)] H1:=λ h3=>by
    refine⟨_,rfl,_,rfl,ma,a,m,j,rfl,⟨dm,hm⟩,⟨dj,hj⟩,λ H5 t5=>k' H5 ?_⟩;rw[ao fZ,ao mY,au h3];exact t1.trans t5
   refine gP (λ h3=>?_) λ h3=>?_
   .exact Z4 (.inl (by simpa using h3))
   .have Ab:¬m.policy=1:=by simpa using h3
    refine⟨_,rfl,rM T hm 0 rfl rfl ⟨rfl,_,rfl,?_⟩⟩;rw[gf];refine gP (λ h4=>?_) λ h4=>?_
    .exact Z4 (.inr (by simpa using h4))
    .have QQ:¬m.policy=2:=by simpa using h4
     have h5:¬(m.policy=1\/m.policy=2):=λ z=>z.elim Ab QQ
     refine⟨_,rfl,rM T hm 0 rfl rfl ⟨rfl,_,rfl,?_⟩⟩;rw[gf];refine gP (λ h6=>?_) λ h6=>?_
     .have h6':m.policy=5:=by simpa using h6
      refine⟨_,rfl,_,rfl,ma,a,m,j,rfl,⟨dm,hm⟩,⟨dj,hj⟩,l0,l3,λ H5 t5=>k' H5 ?_⟩;rw[ao fZ,ao mY,ao h5,au h6'];exact t1.trans t5
     .have h6':¬m.policy=5:=by simpa using h6
      refine k' _ ?_;rw[ao fZ,ao mY,ao h5,ao h6'];exact t1
structure PJ where
 a:Addr
 j:JV
 ps:List Int
structure PM where
 m:MV
 js:List PJ
 run:List Int
structure lF(C:CA)(H:Hp)(ma:Addr)(p:PM):Prop where
 dA:dG C H ma p.m
 aD:H p.m.jobs=some (.aD (p.js.map λ q=>V.ref q.a))
 run:H p.m.aB=some (.aD (p.run.map V.int))
 nd:(p.js.map (·.a)).Nodup
 at_:∀q∈p.js,eA C H q.a q.j/\H q.j.parts=some (.aD (q.ps.map V.int))/\q.j.parts≠p.m.aB/\q.j.parts≠p.m.jobs
 ne:p.m.jobs≠p.m.aB
 len:p.js.length<=16
def Ft(C:CA)(ma ra:Addr)(as:List Addr)(b:Addr):Prop:=b=ma\/b=ra\/b∈as\/b∈C.cE.map (·.1)
def mU(C:CA)(ma ra:Addr)(as:List Addr)(H H':Hp):Prop:=∀b o,H b=some o ->¬Ft C ma ra as b ->H' b=some o
theorem mU.refl{C:CA}{ma ra:Addr}{as:List Addr}{H:Hp}:mU C ma ra as H H:=λ _ _ e _=>e
theorem mU.trans{C:CA}{ma ra:Addr}{as:List Addr}{H H1 H2:Hp}(a:mU C ma ra as H H1)(b:mU C ma ra as H1 H2):mU C ma ra as H H2:=λ c o e n=>b c o (a c o e n) n
theorem mU.same{C:CA}{ma ra:Addr}{as:List Addr}{H H1:Hp}(a:ae H H1):mU C ma ra as H H1:=λ c o e _=>a c o e
theorem mU.tab{C:CA}{ma ra:Addr}{as:List Addr}{H H1:Hp}{Pt:Addr}(h:Pt∈C.cE.map (·.1))(a:cX Pt H H1):mU C ma ra as H H1:=λ c o e n=>a c o e λ z=>n (.inr (.inr (.inr (z▸h))))
def bo(p:PM):List Addr:=p.js.map (·.a)
theorem lF.ja{C:CA}{H:Hp}{ma:Addr}{p:PM}(h:lF C H ma p){q:PJ}(hq:q∈p.js):∃dx,H q.a=some (.bD C.cJ dx q.j.fs):=(h.at_ q hq).1
theorem lF.TH{C:CA}{H:Hp}{ma:Addr}{p:PM}(h:lF C H ma p){q:PJ}(hq:q∈p.js):ma≠q.a:=G2 h.dA (h.at_ q hq).1
theorem io{H:Hp}{a b c dx:Addr}{xs:List V}{fs:List (Str×V)}(h1:H a=some (.aD xs))(h2:H b=some (.bD c dx fs)):a≠b:=me h1 h2 (by intro z;cases z)
theorem wI.ne{C:CA}{H:Hp}(h:cj C H){b:Addr}{o:HO}(e:H b=some o)(hn:∀ps,o≠.tP ps):b∉C.cE.map (·.1):=λ hm=>by
 obtain⟨p,hp,rfl⟩:=cY.mp hm;obtain⟨ps,hP⟩:=(h p hp).is;rw[hP]at e;cases e;exact hn _ rfl
theorem lF.QW{C:CA}{H H':Hp}{ma:Addr}{p:PM}{i:Nat}{q:PJ}{m':MV}{j':JV}(h:lF C H ma p)(hq:p.js[i]?=some q)(t:dP C H H' ma q.a m' j')(e1:m'.jobs=p.m.jobs)(e2:m'.aB=p.m.aB)(e3:j'.parts=q.j.parts):
  lF C H' ma {p with m:=m',js:=p.js.set i {q with j:=j'}}/\mU C ma p.m.aB (bo p) H H':=by
 have DT:q∈p.js:=cH hq;obtain⟨dm,hm⟩:=h.dA;obtain⟨dj,hj⟩:=h.ja DT;have Cs:(p.js.set i {q with j:=j'}).map (·.a)=p.js.map (·.a):=by
  rw[G9];refine Ct λ k=>?_
  by_cases hk:k=i
  .subst hk;obtain⟨hl,e⟩:=gM.mp hq;rw[qF (by simpa using hl),aT,hq];rfl
  .rw[o9 (λ z=>hk z.symm)]
 have QX:∀{b:Addr}{xs:List V},H b=some (.aD xs) ->H' b=some (.aD xs):=λ{b xs} e=>t.fr b _ e (io e hm) (io e hj)
 refine⟨⟨t.m,?_,?_,?_,λ r hr=>?_,?_,?_⟩,λ b o e n=>?_⟩
 .show H' m'.jobs=_;rw[e1,QX h.aD];have:(p.js.set i {q with j:=j'}).map (λ r=>V.ref r.a)=p.js.map λ r=>V.ref r.a:=by
   have:=congrArg (MB V.ref) Cs;rw[bB,bB]at this;exact this
  rw[this]
 .show H' m'.aB=_;rw[e2];exact QX h.run
 .show((p.js.set i {q with j:=j'}).map (·.a)).Nodup;rw[Cs];exact h.nd
 .show eA C H' r.a r.j/\H' r.j.parts=_/\r.j.parts≠m'.aB/\r.j.parts≠m'.jobs;rw[e1,e2];obtain⟨k,hk,ek⟩:=gG hr;have gj:(p.js.set i {q with j:=j'})[k]?=some r:=by rw[<-ek];exact ay hk
  by_cases QY:k=i
  .subst QY;obtain⟨hl,_⟩:=gM.mp hq;rw[qF hl]at gj;cases gj;obtain⟨_,b2,b3,b4⟩:=h.at_ q DT;refine⟨t.j,?_,?_,?_⟩
   .show H' j'.parts=_;rw[e3];exact QX b2
   .show j'.parts≠_;rw[e3];exact b3
   .show j'.parts≠_;rw[e3];exact b4
  .rw[o9 (λ z=>QY z.symm)]at gj;have Z5:r∈p.js:=cH gj;obtain⟨⟨dx,b1⟩,b2,b3,b4⟩:=h.at_ r Z5;have na:r.a≠q.a:=λ z=>by
    have h1:(p.js.map (·.a))[k]?=some r.a:=by rw[aT,gj];rfl
    have h2:(p.js.map (·.a))[i]?=some r.a:=by rw[aT,hq,z];rfl
    exact QY (Gv h.nd h1 h2)
   exact⟨⟨dx,t.fr _ _ b1 (h.TH Z5).symm na⟩,QX b2,b3,b4⟩
 .show m'.jobs≠m'.aB;rw[e1,e2];exact h.ne
 .show(p.js.set i {q with j:=j'}).length<=16;rw[i8];exact h.len
 .exact t.fr b o e (λ z=>n (.inl z)) λ z=>n (.inr (.inr (.inl (by rw[z];exact cY.mpr ⟨q,DT,rfl⟩))))
theorem lF.keep{C:CA}{H H':Hp}{ma:Addr}{p:PM}(h:lF C H ma p)(k:∀b o,H b=some o ->(∀ps,o≠.tP ps) ->H' b=some o):lF C H' ma p:=by
 obtain⟨dm,hm⟩:=h.dA;refine⟨⟨dm,k _ _ hm (by intro ps z;cases z)⟩,k _ _ h.aD (by intro ps z;cases z),k _ _ h.run (by intro ps z;cases z),h.nd,λ q hq=>?_,h.ne,h.len⟩;obtain⟨⟨dx,b1⟩,b2,b3⟩:=h.at_ q hq;exact⟨⟨dx,k _ _ b1 (by intro ps z;cases z)⟩,k _ _ b2 (by intro ps z;cases z),b3⟩
def jp(p:PM):List (Addr×JV):=p.js.map λ q=>(q.a,q.j)
theorem lF.jobs{C:CA}{H:Hp}{ma:Addr}{p:PM}(h:lF C H ma p):lS C H p.m.jobs (jp p):=⟨by unfold jp;rw[bB];exact h.aD,λ r hr=>by
 obtain⟨q,hq,rfl⟩:=cY.mp hr;exact(h.at_ q hq).1⟩
theorem wK{p:PM}:(jp p).length=p.js.length:=ak ..
structure kO(p:PM):Prop where
 ok:ye p.m
 job:∀(i:Nat)(q:PJ),p.js[i]?=some q ->q.j.bh=(i:Int)/\0<=q.j.bX/\q.ps≠[]/\0<q.j.shares/\q.j.shares<1073741824/\0<=q.j.level/\q.j.level<=3/\(q.j.aF=2 ->q.j.bX+1<q.ps.length)/\(q.j.aF=0 ->q.j.bX<q.ps.length)
instance:Inhabited JV:=⟨⟨0,0,0,1,0,0,0,0,0,0,0,0,0,0,0,0,0,0,0,0⟩⟩
instance:Inhabited PJ:=⟨⟨0,default,[]⟩⟩
def at_(p:PM)(i:Nat):PJ:=p.js.getD i default
theorem fO{p:PM}{i:Nat}(h:i<p.js.length):p.js[i]?=some (at_ p i):=by
 unfold at_
 rw[aG,ay h];rfl
theorem MC{p:PM}{i:Nat}{q:PJ}(h:p.js[i]?=some q):at_ p i=q:=by
 unfold at_
 rw[aG,h];rfl
theorem EN{α:Type}(d:α)(l:List α):(bf l.length).map (λ i=>l.getD i d)=l:=by
 refine kn aL λ i h1 h2=>?_
 simp[h2]
theorem oX{α β:Type}(d:α)(f:α ->β)(l:List α):l.map f=(bf l.length).map λ i=>f (l.getD i d):=by
 have:=congrArg (MB f) (EN d l);rw[bB]at this;exact this.symm
theorem y9{α β γ:Type}(lt:α ->α ->Bool)(g:β ->γ)(zs:List (α×β)):MS.eI lt (zs.map λ z=>(z.1,g z.2))=(MS.eI lt zs).map λ z=>(z.1,g z.2):=by
 have ins_map:∀(z:α×β)(l:List (α×β)),MS.bD lt (z.1,g z.2) (l.map λ z=>(z.1,g z.2))=(MS.bD lt z l).map λ z=>(z.1,g z.2):=by
  intro z l;induction l with
  |nil=>rfl
  |cons k r ih=>
   show(if lt z.1 k.1=true then _ else _)=(if lt z.1 k.1=true then z::k::r else k::MS.bD lt z r).map _;split
   .rfl
   .rw[dW,<-ih]
 have go:∀(zs:List (α×β))(acc:List (α×β)),(zs.map λ z=>(z.1,g z.2)).foldl (λ l z=>MS.bD lt z l) (acc.map λ z=>(z.1,g z.2))=(zs.foldl (λ l z=>MS.bD lt z l) acc).map λ z=>(z.1,g z.2):=by
  intro zs;induction zs with
  |nil=>intro acc;rfl
  |cons z r ih=>
   intro acc;show(r.map λ z=>(z.1,g z.2)).foldl (λ l z=>MS.bD lt z l) (MS.bD lt (z.1,g z.2) (acc.map λ z=>(z.1,g z.2)))=_;rw[ins_map,ih];rfl
 exact go zs []
def iq(p:PM):List Nat:=(MS.eI HT.lexLt (((bf p.js.length).filter λ i=>decide ((at_ p i).j.aF=2)).map λ i=>([(at_ p i).j.eC,(at_ p i).j.turn],i))).map (·.2)
theorem G_(p:PM):(MS.eI HT.lexLt (EH (Bg (jp p)))).map (·.2)=(iq p).map λ i=>V.ref (at_ p i).a:=by
 have e:EH (Bg (jp p))=(((bf p.js.length).filter λ i=>decide ((at_ p i).j.aF=2)).map λ i=>([(at_ p i).j.eC,(at_ p i).j.turn],i)).map λ z=>(z.1,V.ref (at_ p z.2).a):=by
  unfold EH Bg jp;rw[oX default (λ q:PJ=>(q.a,q.j)) p.js,mw,bB,bB];rfl
 rw[e,y9 HT.lexLt (λ i=>V.ref (at_ p i).a),bB];unfold iq;rw[bB];rfl
theorem lT{α β:Type}(lt:α ->α ->Bool)(zs:List (α×β)):(MS.eI lt zs).Perm zs:=by
 have ip:∀(z:α×β)(l:List (α×β)),(MS.bD lt z l).Perm (z::l):=by
  intro z l;induction l with
  |nil=>exact TJ _
  |cons k r ih=>
   show(if lt z.1 k.1=true then z::k::r else k::MS.bD lt z r).Perm _;split
   .exact TJ _
   .exact(List.Perm.cons k ih).trans (List.Perm.swap z k r)
 have go:∀(zs acc:List (α×β)),(zs.foldl (λ l z=>MS.bD lt z l) acc).Perm (acc++zs):=by
  intro zs;induction zs with
  |nil=>intro acc;rw[tZ];exact TJ _
  |cons z r ih=>
   intro acc;refine(ih (MS.bD lt z acc)).trans ?_;refine((ip z acc).append_right r).trans ?_;exact(List.perm_middle (l₁:=acc) (l₂:=r) (a:=z)).symm
 have:=go zs [];rw[t_]at this;exact this
theorem Ad(p:PM):(iq p).Nodup/\∀i∈iq p,i<p.js.length/\(at_ p i).j.aF=2:=by
 have pm:=(lT HT.lexLt (((bf p.js.length).filter λ i=>decide ((at_ p i).j.aF=2)).map λ i=>([(at_ p i).j.eC,(at_ p i).j.turn],i))).map mK;rw[bB]at pm;have e:(((bf p.js.length).filter λ i=>decide ((at_ p i).j.aF=2)).map (mK∘λ i=>(([(at_ p i).j.eC,(at_ p i).j.turn]:List Int),i)))=(bf p.js.length).filter λ i=>decide ((at_ p i).j.aF=2):=by
  rw[show(mK∘λ i=>(([(at_ p i).j.eC,(at_ p i).j.turn]:List Int),i))=(id:Nat ->Nat) from rfl,uq]
 rw[e]at pm;refine⟨pm.nodup_iff.mpr (y_.sublist Ha),λ i hi=>?_⟩;have:=ii.mp (pm.mem_iff.mp hi);exact⟨gB.mp this.1,G8 this.2⟩
def qp(p:PM)(i:Nat)(q:PJ):PM:={p with m:=iN p.m,js:=p.js.set i {q with j:=pX p.m q.j (q.ps.getD q.j.bX.toNat 0)}}
def eK(p:PM)(i:Nat):PM:=if(at_ p i).j.eC<=p.m.now then qp p i {at_ p i with j:={(at_ p i).j with bX:=(at_ p i).j.bX+1}}else p
def jT(p:PM):PM:=(iq p).foldl eK p
theorem Hb(p:PM)(i:Nat):(eK p i).m.jobs=p.m.jobs/\(eK p i).m.aB=p.m.aB/\(eK p i).m.now=p.m.now/\(eK p i).js.length=p.js.length/\(eK p i).run=p.run:=by
 unfold eK;split
 .exact⟨rfl,rfl,rfl,i8 ..,rfl⟩
 .exact⟨rfl,rfl,rfl,rfl,rfl⟩
theorem ur(p:PM){i k:Nat}(h:k≠i):at_ (eK p i) k=at_ p k:=by
 unfold eK;split
 .show(p.js.set i _).getD k default=p.js.getD k default;rw[aG,o9 (λ z=>h z.symm),<-aG]
 .rfl
theorem dY{f:PM ->Nat ->PM}(h:∀p i,(f p i).m.jobs=p.m.jobs/\(f p i).m.aB=p.m.aB/\(f p i).m.now=p.m.now/\(f p i).js.length=p.js.length/\(f p i).run=p.run)(ho:∀p i k,k≠i ->at_ (f p i) k=at_ p k):
  ∀(l:List Nat)(p:PM),(l.foldl f p).m.jobs=p.m.jobs/\(l.foldl f p).m.aB=p.m.aB/\(l.foldl f p).m.now=p.m.now/\(l.foldl f p).js.length=p.js.length/\(l.foldl f p).run=p.run/\∀k,k∉l ->at_ (l.foldl f p) k=at_ p k
 |[],p=>⟨rfl,rfl,rfl,rfl,rfl,λ _ _=>rfl⟩
 |i::l,p=>by
  obtain⟨a1,a2,a3,a4,a5,a6⟩:=dY h ho l (f p i);obtain⟨b1,b2,b3,b4,b5⟩:=h p i;refine⟨a1.trans b1,a2.trans b2,a3.trans b3,a4.trans b4,a5.trans b5,λ k hk=>?_⟩;rw[eB,not_or]at hk;exact(a6 k hk.2).trans (ho p i k hk.1)
theorem jy{p:PM}{i:Nat}{q q':PJ}(h:p.js[i]?=some q)(e:q'.a=q.a)(m:MV)(r:List Int):bo {m:=m,js:=p.js.set i q',run:=r}=bo p:=by
 unfold bo;rw[G9];refine Ct λ k=>?_
 by_cases hk:k=i
 .subst hk;obtain⟨hl,_⟩:=gM.mp h;rw[qF (by simpa using hl),aT,h,e];rfl
 .rw[o9 (λ z=>hk z.symm)]
theorem cj.fr{C:CA}{H H':Hp}{ma a:Addr}{m m0:MV}{j j0:JV}(h:cj C H)(h1:dG C H ma m0)(h2:eA C H a j0)(t:dP C H H' ma a m j):cj C H':=λ p hp=>by
 obtain⟨tr,hT,hc⟩:=h p hp;obtain⟨dm,hm⟩:=h1;obtain⟨dj,hj⟩:=h2;refine⟨tr,t.fr _ _ hT (me hT hm (by intro z;cases z)) (me hT hj (by intro z;cases z)),λ x hx=>?_⟩;have e:=hc x hx;exact t.fr _ _ e (me e hm (by intro z;cases z)) (me e hj (by intro z;cases z))
def MD(C:CA):Sp:=λ vs H Q _=>∃(ma:Addr)(p:PM),vs=[.ref ma]/\lF C H ma p/\kO p/\cj C H/\∀H',lF C H' ma (jT p) ->cj C H' ->mU C ma p.m.aB (bo p) H H' ->Q .bu H'
theorem QZ{f Pt:Addr}{fd:bp}(F:bi K "wake_sleepers" mC f fd)(T:Txt K mg C)(VU:(Pt,EI)∈C.cE)(hTn:∀q∈C.cE,q.1=Pt ->q.2=EI)(D1:cF P w K mg base "sleepers_in_order" [b8] 7 (Mu C Pt))(D2:cF P w K mg base "make_ready" [b8,dL] 2 (EK C)):
  bj P w K mg base CX0 8 f fd [b8] (MD C):=by
 refine F.ok [b8,dL] λ b_ A aA s H vs Q E hr h nd=>?_
 obtain⟨ma,p,rfl,O,W,Tb,k⟩:=h;refine⟨_,af (ee eY rfl (bF (al D1 hr rfl (aO (pv 0)))) (aU (i:=1) nd rfl (aH rfl))
  (af (br (aI qH (ai (pv 1) rfl) (ai (pv 0) rfl) (aR _)) (ab (dh (pv 1) am iZ) (af (bz (al D2 (hr.bI zq_dc) rfl (bA (pv 0) (pv 1)))))) aK))),?_⟩
 try dsimp only [bx,Cx.dJ]
 refine⟨_,rfl,ma,p.m,jp p,rfl,O.dA,O.jobs,(by rw[wK];exact O.len),Tb _ VU,λ H1 D sp Tb1 hD=>?_⟩;rw[G_ p];obtain⟨ps0,Z6⟩:=(Tb _ VU).is;have TK:∀b o,H b=some o ->(∀ps,o≠.tP ps) ->aS H1 D (.aD ((iq p).map λ i=>V.ref (at_ p i).a)) b=some o:=λ b o e n=>by
  have e1:=sp b o e λ z=>by rw[z,Z6]at e;exact n _ (cT e).symm
  rw[ag (aM e1 hD)];exact e1
 have O1:=O.keep TK;have TbA:cj C (aS H1 D (.aD ((iq p).map λ i=>V.ref (at_ p i).a))):=λ q hq=>by
  have up:ae H1 (aS H1 D (.aD ((iq p).map λ i=>V.ref (at_ p i).a))):=λ b o e=>by rw[ag (aM e hD)];exact e
  by_cases VV:q.1=Pt
  .rw[hTn q hq VV,VV];exact Tb1.ph up
  .obtain⟨tr,a1,a2⟩:=Tb q hq;exact⟨tr,up _ _ (sp _ _ a1 VV),λ t ht=>up _ _ (sp _ _ (a2 t ht) λ z=>by have:=a2 t ht;rw[z,Z6]at this;cases this)⟩
 have fr1:mU C ma p.m.aB (bo p) H (aS H1 D (.aD ((iq p).map λ i=>V.ref (at_ p i).a))):=λ b o e n=>by
  have e1:=sp b o e λ z=>n (.inr (.inr (.inr (cY.mpr ⟨_,VU,z.symm⟩))))
  rw[ag (aM e1 hD)];exact e1
 have hDl:D≠p.m.aB:=λ z=>by
  have:=TK _ _ O.run (by intro ps z;cases z);have e1:=sp _ _ O.run λ z=>by have:=O.run;rw[z,Z6]at this;cases this
  rw[z]at hD;rw[hD]at e1;cases e1
 obtain⟨ndI,VW⟩:=Ad p;refine⟨D,rfl,⟨_,aP.of aa⟩,eV (K:=K) (a:=D) (xs:=(iq p).map λ i=>V.ref (at_ p i).a)
  (λ t σ H'=>∃v:Option V,σ=[some (.ref ma),v]/\lF C H' ma (((iq p).take t).foldl eK p)/\cj C H'/\H' D=some (.aD ((iq p).map λ i=>V.ref (at_ p i).a))/\mU C ma p.m.aB (bo p) H H'/\bo (((iq p).take t).foldl eK p)=bo p)
  ⟨none,rfl,O1,TbA,aa,fr1,rfl⟩ (λ t σ H' _ ⟨_,_,_,_,ME,_⟩=>aP.of ME) ?_ ?_⟩
 .rintro t x σ H' hx ⟨v,rfl,O',Bh,ME,Bj,pr⟩
  obtain⟨i,hi,rfl⟩:∃i,(iq p)[t]?=some i/\x=V.ref (at_ p i).a:=by
   rw[aT]at hx;cases e:(iq p)[t]?with
   |none=>rw[e]at hx;cases hx
   |some i=>rw[e]at hx;exact⟨i,rfl,(cT hx).symm⟩
  have him:i∈iq p:=cH hi;obtain⟨jF,vo⟩:=VW i him;have VX:i∉(iq p).take t:=λ hm=>by
   obtain⟨k',gj,ek'⟩:=gG hm;rw[k7]at gj;have e1:(iq p)[k']?=some i:=by
    rw[<-ek',Z7];exact ay ah
   have:=Gv ndI e1 hi;omega
  obtain⟨c1,c2,c3,c4,c5,c6⟩:=dY Hb (λ p i k h=>ur p h) ((iq p).take t) p;have jY:at_ (((iq p).take t).foldl eK p) i=at_ p i:=c6 i VX
  obtain⟨p',Kh⟩:=bS (((iq p).take t).foldl eK p);rw[<-Kh]at O' pr c1 c2 c3 c4 c5 jY;have bH:i<p'.js.length:=by rw[c4];exact jF
  have hq:p'.js[i]?=some (at_ p i):=by rw[fO bH,jY]
  have DT:at_ p i∈p'.js:=cH hq
  obtain⟨q,Bk⟩:=bS (at_ p i);rw[<-Bk]at hq DT vo;have hW:=W.job i q (by rw[Bk];exact fO jF);have gL:((iq p).take (t+1)).foldl eK p=eK p' i:=by
   rw[mz,hi,Kh];show(((iq p).take t)++[i]).foldl eK p=_;rw[MF];rfl
  have IS:eK p' i=if q.j.eC<=p'.m.now then qp p' i {q with j:={q.j with bX:=q.j.bX+1}}else p':=by
   unfold eK;rw[jY,Bk]
  obtain⟨dj,hj⟩:=O'.ja DT;obtain⟨dm,hm⟩:=O'.dA;have VY:[some (V.ref ma),v].set 1 (some (V.ref (at_ p i).a))=[some (V.ref ma),some (V.ref q.a)]:=by rw[Bk];rfl
  show Kw _ _ _ _ ([some (V.ref ma),v].set 1 (some (V.ref (at_ p i).a))) H';rw[VY];refine⟨_,rfl,rJ T hj 11 rfl rfl ⟨_,rfl,rM T hm 4 rfl rfl ⟨_,_,rfl,rfl,_,rfl,?_⟩⟩⟩;refine gP (λ h1=>?_) λ h1=>?_
  .have fZ:q.j.eC<=p'.m.now:=by simpa using h1
   rw[au fZ]at IS;refine⟨_,rfl,rJ T hj 8 rfl rfl ⟨_,_,rfl,rfl,dj,_,hj,(by rw[JV.len];decide),?_⟩⟩;rw[JV.fU q.j {q.j with bX:=q.j.bX+1} (k:=8) rfl rfl];have t1:dP C H' _ ma q.a p'.m {q.j with bX:=q.j.bX+1}:=dP.gD (dj:=dj) ⟨dm,hm⟩ ⟨dj,hj⟩;generalize aS H' q.a _=H2 at t1;have Qx:=(O'.at_ q DT).2.1;have ac1:=t1.aD ⟨dm,hm⟩ ⟨dj,hj⟩ Qx;have dC:(q.j.bX+1).toNat<q.ps.length:=by have:=hW.2.2.2.2.2.2.2.1 vo;have:=hW.2.1;omega
   refine⟨_,rfl,_,rfl,ma,q.a,p'.m,{q.j with bX:=q.j.bX+1},q.ps,(q.j.bX+1).toNat,q.ps.getD (q.j.bX+1).toNat 0,rfl,t1.m,t1.j,ac1,(by show q.j.bX+1=_;have:=hW.2.1;omega),(by rw[aG,ay dC];rfl),λ H3 t3=>?_⟩;have t4:=t1.trans t3;obtain⟨O4,Ki⟩:=O'.QW hq t4 rfl rfl rfl;refine⟨_,rfl,?_,Bh.fr ⟨dm,hm⟩ ⟨dj,hj⟩ t4,?_,Bj.trans ?_,?_⟩
   .rw[gL,IS];exact O4
   .exact t4.aD ⟨dm,hm⟩ ⟨dj,hj⟩ ME
   .rw[c2]at Ki;rw[pr]at Ki;exact Ki
   .rw[gL,IS];exact(jy (q':={q with j:=pX p'.m {q.j with bX:=q.j.bX+1} (q.ps.getD (q.j.bX+1).toNat 0)}) hq rfl (iN p'.m) p'.run).trans pr
  .have fZ:¬q.j.eC<=p'.m.now:=by simpa using h1
   rw[ao fZ]at IS;exact⟨_,rfl,by rw[gL,IS];exact O',Bh,ME,Bj,by rw[gL,IS];exact pr⟩
 .rintro σ H' ⟨v,rfl,O',Bh,ME,Bj,pr⟩
  rw[ak,km]at O';exact k H' O' Bh Bj
def fV(p:PM)(i:Nat):PM:=if(at_ p i).j.aF=0/\(at_ p i).j.fR<=p.m.now then qp p i (at_ p i)else p
def lx(p:PM):PM:=(bf p.js.length).foldl fV p
theorem sT{js:List PJ}{i k:Nat}{q:PJ}(h:k≠i):(js.set i q).getD k default=js.getD k default:=by
 rw[aG,o9 (λ z=>h z.symm),<-aG]
theorem Ae(p:PM)(i:Nat):(fV p i).m.jobs=p.m.jobs/\(fV p i).m.aB=p.m.aB/\(fV p i).m.now=p.m.now/\(fV p i).js.length=p.js.length/\(fV p i).run=p.run:=by
 unfold fV;split
 .exact⟨rfl,rfl,rfl,i8 ..,rfl⟩
 .exact⟨rfl,rfl,rfl,rfl,rfl⟩
theorem om(p:PM){i k:Nat}(h:k≠i):at_ (fV p i) k=at_ p k:=by
 unfold fV;split
 .exact sT h
 .rfl
def za(j:JV):JV:={j with level:=0,used:=0}
def iO(p:PM)(i:Nat):PM:={p with js:=p.js.set i {at_ p i with j:=za (at_ p i).j}}
def jU(p:PM):PM:=if p.m.policy=5/\p.m.boost≠0/\p.m.now≠0/\p.m.now % p.m.boost=0 then(bf p.js.length).foldl iO p else p
theorem Af(p:PM)(i:Nat):(iO p i).m.jobs=p.m.jobs/\(iO p i).m.aB=p.m.aB/\(iO p i).m.now=p.m.now/\(iO p i).js.length=p.js.length/\(iO p i).run=p.run:=⟨rfl,rfl,rfl,i8 ..,rfl⟩
theorem on(p:PM){i k:Nat}(h:k≠i):at_ (iO p i) k=at_ p k:=sT h
def pY(j:JV):JV:={j with waited:=j.waited+1,dF:=mx j.dF (j.waited+1)}
def eZ(r:Int)(p:PM)(i:Nat):PM:=if¬(at_ p i).j.bh=r then{p with js:=p.js.set i {at_ p i with j:=pY (at_ p i).j}}else p
def jq(p:PM):List Nat:=(bf p.js.length).filter λ i=>decide ((at_ p i).j.aF=1)
def mL(r:Int)(p:PM):PM:=(jq p).foldl (eZ r) p
theorem Hc(r:Int)(p:PM)(i:Nat):(eZ r p i).m.jobs=p.m.jobs/\(eZ r p i).m.aB=p.m.aB/\(eZ r p i).m.now=p.m.now/\(eZ r p i).js.length=p.js.length/\(eZ r p i).run=p.run:=by
 unfold eZ;split
 .exact⟨rfl,rfl,rfl,i8 ..,rfl⟩
 .exact⟨rfl,rfl,rfl,rfl,rfl⟩
theorem ut(r:Int)(p:PM){i k:Nat}(h:k≠i):at_ (eZ r p i) k=at_ p k:=by
 unfold eZ;split
 .exact sT h
 .rfl
theorem Q0(p:PM):gr (qB (jp p))=(jq p).map λ i=>V.ref (at_ p i).a:=by
 unfold gr qB jp jq;rw[oX default (λ q:PJ=>(q.a,q.j)) p.js,mw,bB];rfl
theorem Hd(p:PM):(jq p).Nodup/\∀i∈jq p,i<p.js.length:=⟨y_.sublist Ha,λ i hi=>gB.mp (ii.mp hi).1⟩
theorem Ag{f:PM ->Nat ->PM}(hf:∀p i,(f p i).m.jobs=p.m.jobs/\(f p i).m.aB=p.m.aB/\(f p i).m.now=p.m.now/\(f p i).js.length=p.js.length/\(f p i).run=p.run)(ho:∀p i k,k≠i ->at_ (f p i) k=at_ p k)
  {p:PM} {l:List Nat} (nd:l.Nodup) {t i:Nat} (hi:l[t]?=some i) (jF:i<p.js.length):
  (((l.take t).foldl f p).js[i]?=some (at_ p i))/\at_ ((l.take t).foldl f p) i=at_ p i/\(l.take (t+1)).foldl f p=f ((l.take t).foldl f p) i/\((l.take t).foldl f p).m.aB=p.m.aB/\((l.take t).foldl f p).m.jobs=p.m.jobs/\((l.take t).foldl f p).m.now=p.m.now/\((l.take t).foldl f p).js.length=p.js.length:=by
 have VX:i∉l.take t:=λ hm=>by
  obtain⟨k',gj,ek'⟩:=gG hm;rw[k7]at gj;have e1:l[k']?=some i:=by
   rw[<-ek',Z7];exact ay ah
  have:=Gv nd e1 hi;omega
 obtain⟨c1,c2,c3,c4,c5,c6⟩:=dY hf ho (l.take t) p;have jY:=c6 i VX;refine⟨?_,jY,?_,c2,c1,c3,c4⟩
 .rw[fO (by rw[c4];exact jF),jY]
 .rw[mz,hi];show((l.take t)++[i]).foldl f p=_;rw[MF];rfl
theorem He{p p':PM}(h:bo p'=bo p):(p'.js.map λ q=>V.ref q.a)=p.js.map λ q=>V.ref q.a:=by
 have:=congrArg (MB V.ref) h;unfold bo at this;rw[bB,bB]at this;exact this
theorem Cu{n t:Nat}(h:t<n):(bf n)[t]?=some t:=by simp[h]
theorem TM{p:PM}{t:Nat}{x:V}(hx:(p.js.map λ q=>V.ref q.a)[t]?=some x):t<p.js.length/\x=V.ref (at_ p t).a:=by
 rw[aT]at hx;cases e:p.js[t]?with
 |none=>rw[e]at hx;cases hx
 |some q=>
  rw[e]at hx;refine⟨(gM.mp e).1,?_⟩;rw[MC e];exact(cT hx).symm
def MG(C:CA):Sp:=λ vs H Q _=>∃(ma:Addr)(p:PM),vs=[.ref ma]/\lF C H ma p/\kO p/\cj C H/\∀H',lF C H' ma (lx p) ->cj C H' ->mU C ma p.m.aB (bo p) H H' ->bo (lx p)=bo p ->Q .bu H'
theorem Q3(F:bi K "let_in_coming" mD f fd)(T:Txt K mg C)(D2:cF P w K mg base "make_ready" [b8,dL] 2 (EK C)):bj P w K mg base CX0 3 f fd [b8] (MG C):=by
 refine F.ok [b8,dL] λ b_ A aA s H vs Q E hr h nd=>?_
 obtain⟨ma,p,rfl,O,W,Tb,k⟩:=h;obtain⟨dm0,xU⟩:=O.dA;refine⟨_,af (ee eY rfl (bF (ai (pv 0) rfl)) (aU (i:=1) nd rfl (aH rfl))
  (af (br (PW.pt (qd (aI dM (ai (pv 1) rfl) (cN (T.i (n:=0) zq_dk) rfl) (aR _)) (lI (aI qH (ai (pv 1) rfl) (ai (pv 0) rfl) (aR _))))) (af (bz (al D2 hr rfl (bA (pv 0) (pv 1))))) aK))),?_⟩
 try dsimp only [bx,Cx.dJ]
 refine⟨_,rfl,ma,C.cM,dm0,_,_,rfl,xU,T.iX,T.nM _ zq_dk,(p.m).get (k:=8) rfl rfl,p.m.jobs,rfl,⟨_,aP.of O.aD⟩,eV (K:=K) (a:=p.m.jobs) (xs:=p.js.map λ q=>V.ref q.a)
  (λ t σ H'=>∃v:Option V,σ=[some (.ref ma),v]/\lF C H' ma (((bf p.js.length).take t).foldl fV p)/\cj C H'/\mU C ma p.m.aB (bo p) H H'/\bo (((bf p.js.length).take t).foldl fV p)=bo p)
  ⟨none,rfl,O,Tb,mU.refl,rfl⟩ (λ t σ H' _ ⟨_,_,O',_,_,pr⟩=>?_) ?_ ?_⟩
 .obtain⟨c1,_⟩:=dY Ae (λ p i k h=>om p h) ((bf p.js.length).take t) p;have:=O'.aD;rw[c1,He pr]at this;exact aP.of this
 .rintro t x σ H' hx ⟨v,rfl,O',Bh,Bj,pr⟩
  obtain⟨jF,rfl⟩:=TM hx;obtain⟨hq,jY,gL,c2,c1,c3,c4⟩:=Ag Ae (λ p i k h=>om p h) y_ (Cu jF) jF;obtain⟨p',Kh⟩:=bS (((bf p.js.length).take t).foldl fV p);rw[<-Kh]at O' pr hq jY gL c1 c2 c3 c4;obtain⟨q,Bk⟩:=bS (at_ p t);rw[<-Bk]at hq jY;have DT:q∈p'.js:=cH hq;have hW:=W.job t q (by rw[Bk];exact fO jF);have Xu:fV p' t=if q.j.aF=0/\q.j.fR<=p'.m.now then qp p' t q else p':=by
   unfold fV;rw[jY]
  obtain⟨dj,hj⟩:=O'.ja DT;obtain⟨dm,hm⟩:=O'.dA;have VY:[some (V.ref ma),v].set 1 (some (V.ref (at_ p t).a))=[some (V.ref ma),some (V.ref q.a)]:=by rw[Bk];rfl
  show Kw _ _ _ _ ([some (V.ref ma),v].set 1 (some (V.ref (at_ p t).a))) H';rw[VY];have sA:¬(q.j.aF=0/\q.j.fR<=p'.m.now) ->∃v:Option V,[some (V.ref ma),some (V.ref q.a)]=[some (.ref ma),v]/\lF C H' ma (((bf p.js.length).take (t+1)).foldl fV p)/\cj C H'/\mU C ma p.m.aB (bo p) H H'/\bo (((bf p.js.length).take (t+1)).foldl fV p)=bo p:=λ h1=>by
   rw[ao h1]at Xu;exact⟨_,rfl,by rw[gL,Xu];exact O',Bh,Bj,by rw[gL,Xu];exact pr⟩
  refine⟨_,rfl,rJ T hj 7 rfl rfl ⟨rfl,_,rfl,?_⟩⟩;rw[gf];refine gP (λ h1=>?_) λ h1=>?_
  .have fZ:q.j.aF=0:=by simpa using h1
   refine⟨_,rfl,rJ T hj 1 rfl rfl ⟨_,rfl,rM T hm 4 rfl rfl ⟨_,_,rfl,rfl,_,rfl,?_⟩⟩⟩;refine gP (λ h2=>?_) λ h2=>?_
   .have mY:q.j.fR<=p'.m.now:=by simpa using h2
    rw[au ⟨fZ,mY⟩]at Xu;have dC:q.j.bX.toNat<q.ps.length:=by have:=hW.2.2.2.2.2.2.2.2 fZ;have:=hW.2.1;omega
    refine⟨_,rfl,_,rfl,ma,q.a,p'.m,q.j,q.ps,q.j.bX.toNat,q.ps.getD q.j.bX.toNat 0,rfl,⟨dm,hm⟩,⟨dj,hj⟩,(O'.at_ q DT).2.1,(by have:=hW.2.1;omega),(by rw[aG,ay dC];rfl),λ H3 t3=>?_⟩;obtain⟨O4,Ki⟩:=O'.QW hq t3 rfl rfl rfl;refine⟨_,rfl,?_,Bh.fr ⟨dm,hm⟩ ⟨dj,hj⟩ t3,Bj.trans ?_,?_⟩
    .rw[gL,Xu];exact O4
    .rw[c2,pr]at Ki;exact Ki
    .rw[gL,Xu];exact(jy (q':={q with j:=pX p'.m q.j (q.ps.getD q.j.bX.toNat 0)}) hq rfl (iN p'.m) p'.run).trans pr
   .have mY:¬q.j.fR<=p'.m.now:=by simpa using h2
    exact sA λ z=>mY z.2
  .have fZ:¬q.j.aF=0:=by simpa using h1
   exact sA λ z=>fZ z.1
 .rintro σ H' ⟨v,rfl,O',Bh,Bj,pr⟩
  have e:(bf p.js.length).take (p.js.map λ q=>V.ref q.a).length=bf p.js.length:=by
   rw[ak];exact nG aL
  rw[e]at O' pr;exact k H' O' Bh Bj pr
def MH(C:CA):Sp:=λ vs H Q _=>∃(ma:Addr)(p:PM),vs=[.ref ma]/\lF C H ma p/\0<=p.m.boost/\cj C H/\∀H',lF C H' ma (jU p) ->cj C H' ->mU C ma p.m.aB (bo p) H H' ->bo (jU p)=bo p ->Q .bu H'
theorem Q4(F:bi K "lift_levels" pR f fd)(T:Txt K mg C):bj P w K mg base CX0 1 f fd [b8] (MH C):=by
 refine F.ok [b8,dL] λ b_ A aA s H vs Q E hr h nd=>?_
 obtain⟨ma,p,rfl,O,hb0,Tb,k⟩:=h;obtain⟨dm,hm⟩:=O.dA;obtain⟨m,TN⟩:=bS (p.m);rw[<-TN]at hm hb0;refine⟨_,ab (br (PW.pt (tT (aI Bu (ai (pv 0) rfl) (cN (T.i (n:=5) zq_dk) rfl) (aR _)) (m_ (aI dM (ai (pv 0) rfl) am (aR _))))) (af vn) aK)
  (ab (br (PW.pt (tT (aI dM (ai (pv 0) rfl) am (aR _)) (m_ (aI Bu (bG Ed (ai (pv 0) rfl) (ai (pv 0) rfl)) am (aR _))))) (af vn) aK)
  (af (ee eY rfl (bF (ai (pv 0) rfl)) (aU (i:=1) nd rfl (aH rfl)) (ab (aN (pv 1) am rfl) (af (aN (pv 1) am rfl)))))),?_⟩
 try dsimp only [bx,Cx.dJ]
 have no:¬(p.m.policy=5/\p.m.boost≠0/\p.m.now≠0/\p.m.now % p.m.boost=0) ->Q .bu H:=λ z=>by
  have e:jU p=p:=ao z;exact k H (by rw[e];exact O) Tb mU.refl (by rw[e])
 refine⟨_,rfl,rM T hm 0 rfl rfl ⟨rfl,_,rfl,?_⟩⟩;rw[gf];refine gP (λ h1=>?_) λ h1=>?_
 .have fZ:¬m.policy=5:=by simpa using h1
  exact no λ z=>fZ (by rw[TN];exact z.1)
 .have fZ:m.policy=5:=by simpa using h1
  refine⟨_,rfl,rM T hm 3 rfl rfl ⟨rfl,_,rfl,?_⟩⟩;rw[gf];refine gP (λ h2=>?_) λ h2=>?_
  .have mY:m.boost=0:=by simpa using h2
   exact no λ z=>z.2.1 (by rw[<-TN];exact mY)
  .have mY:¬m.boost=0:=by simpa using h2
   refine⟨_,rfl,rM T hm 4 rfl rfl ⟨rfl,_,rfl,?_⟩⟩;rw[gf];refine gP (λ h3=>?_) λ h3=>?_
   .have Ab:m.now=0:=by simpa using h3
    exact no λ z=>z.2.2.1 (by rw[<-TN];exact Ab)
   .have Ab:¬m.now=0:=by simpa using h3
    refine⟨_,rfl,rM T hm 4 rfl rfl ⟨_,rfl,rM T hm 3 rfl rfl ⟨_,_,rfl,rfl,(by show(0:Int)<m.boost;omega),rfl,_,rfl,?_⟩⟩⟩;rw[gf];refine gP (λ h4=>?_) λ h4=>?_
    .have QQ:¬m.now % m.boost=0:=by simpa using h4
     exact no λ z=>QQ (by rw[TN];exact z.2.2.2)
    .have QQ:m.now % m.boost=0:=by simpa using h4
     have yes:jU p=(bf p.js.length).foldl iO p:=au (by rw[<-TN];exact⟨fZ,mY,Ab,QQ⟩);rw[yes]at k;refine⟨_,rfl,ma,C.cM,dm,_,_,rfl,hm,T.iX,T.nM _ zq_dk,m.get (k:=8) rfl rfl,m.jobs,rfl,⟨_,aP.of (by rw[TN];exact O.aD)⟩,eV (K:=K) (a:=m.jobs) (xs:=p.js.map λ q=>V.ref q.a)
      (λ t σ H'=>∃v:Option V,σ=[some (.ref ma),v]/\lF C H' ma (((bf p.js.length).take t).foldl iO p)/\cj C H'/\mU C ma p.m.aB (bo p) H H'/\bo (((bf p.js.length).take t).foldl iO p)=bo p)
      ⟨none,rfl,O,Tb,mU.refl,rfl⟩ (λ t σ H' _ ⟨_,_,O',_,_,pr⟩=>?_) ?_ ?_⟩
     .obtain⟨c1,_⟩:=dY Af (λ p i k h=>on p h) ((bf p.js.length).take t) p;have:=O'.aD;rw[c1,He pr,<-TN]at this;exact aP.of this
     .rintro t x σ H' hx ⟨v,rfl,O',Bh,Bj,pr⟩
      obtain⟨jF,rfl⟩:=TM hx;obtain⟨hq,jY,gL,c2,c1,c3,c4⟩:=Ag Af (λ p i k h=>on p h) y_ (Cu jF) jF;obtain⟨p',Kh⟩:=bS (((bf p.js.length).take t).foldl iO p);rw[<-Kh]at O' pr hq jY gL c1 c2 c3 c4;obtain⟨q,Bk⟩:=bS (at_ p t);rw[<-Bk]at hq jY;have DT:q∈p'.js:=cH hq;obtain⟨dj,hj⟩:=O'.ja DT;obtain⟨dm',Z8⟩:=O'.dA;have VY:[some (V.ref ma),v].set 1 (some (V.ref (at_ p t).a))=[some (V.ref ma),some (V.ref q.a)]:=by rw[Bk];rfl
      show U3 _ _ _ ([some (V.ref ma),v].set 1 (some (V.ref (at_ p t).a))) H';rw[VY];refine⟨_,rfl,wJ T hj ?_⟩;rw[JV.fU q.j {q.j with level:=0} (k:=15) rfl rfl];have t1:dP C H' _ ma q.a p'.m {q.j with level:=0}:=dP.gD (dj:=dj) ⟨dm',Z8⟩ ⟨dj,hj⟩;generalize aS H' q.a _=H2 at t1;obtain⟨Cq,sy⟩:=t1.j;refine⟨_,rfl,wJ T sy ?_⟩;rw[JV.fU {q.j with level:=0} (za q.j) (k:=14) (v:=.int 0) rfl rfl];have t2:dP C H' _ ma q.a p'.m (za q.j):=t1.trans (dP.gD (dj:=Cq) t1.m ⟨Cq,sy⟩);generalize aS H2 q.a _=H3 at t2;obtain⟨O4,Ki⟩:=O'.QW hq t2 rfl rfl rfl;have hlq:iO p' t={p' with js:=p'.js.set t {q with j:=za q.j}}:=by
       unfold iO;rw[jY]
      refine⟨_,rfl,?_,Bh.fr ⟨dm',Z8⟩ ⟨dj,hj⟩ t2,Bj.trans ?_,?_⟩
      .rw[gL,hlq];exact O4
      .rw[c2,pr]at Ki;exact Ki
      .rw[gL,hlq];exact(jy (q':={q with j:=za q.j}) hq rfl p'.m p'.run).trans pr
     .rintro σ H' ⟨v,rfl,O',Bh,Bj,pr⟩
      have e:(bf p.js.length).take (p.js.map λ q=>V.ref q.a).length=bf p.js.length:=by
       rw[ak];exact nG aL
      rw[e]at O' pr;exact k H' O' Bh Bj pr
def MI(C:CA):Sp:=λ vs H Q _=>∃(ma ra:Addr)(p:PM)(r:PJ),vs=[.ref ma,.ref ra]/\lF C H ma p/\r∈p.js/\r.a=ra/\cj C H/\∀H',lF C H' ma (mL r.j.bh p) ->cj C H' ->mU C ma p.m.aB (bo p) H H' ->bo (mL r.j.bh p)=bo p ->Q .bu H'
theorem Cv(r:Int):∀(l:List Nat)(p:PM)(q:PJ),q∈(l.foldl (eZ r) p).js ->∃q0∈p.js,q0.a=q.a/\q0.j.bh=q.j.bh
 |[],p,q,h=>⟨q,h,rfl,rfl⟩
 |i::l,p,q,h=>by
  obtain⟨q1,h1,e1,e2⟩:=Cv r l (eZ r p i) q h;unfold eZ at h1;split at h1
  .by_cases jF:i<p.js.length
   .obtain⟨k,hk,ek⟩:=gG h1;have gj:(p.js.set i {at_ p i with j:=pY (at_ p i).j})[k]?=some q1:=by rw[<-ek];exact ay hk
    by_cases QY:k=i
    .subst QY;rw[qF jF]at gj;cases gj;exact⟨at_ p k,cH (fO jF),e1,e2⟩
    .rw[o9 (λ z=>QY z.symm)]at gj;exact⟨q1,cH gj,e1,e2⟩
   .rw[MJ ah]at h1;exact⟨q1,h1,e1,e2⟩
  .exact⟨q1,h1,e1,e2⟩
theorem Q5(F:bi K "let_others_wait" kh f fd)(T:Txt K mg C)(D1:cF P w K mg base "ready_jobs" [b8] 1 (vz C)):bj P w K mg base CX0 2 f fd [b8,"runner"] (MI C):=by
 refine F.ok [b8,"runner",dL] λ b_ A aA s H vs Q E hr h nd=>?_
 obtain⟨ma,ra,p,r,rfl,O,Z5,rfl,Tb,k⟩:=h;refine⟨_,af (ee eY rfl (bF (al D1 hr rfl (aO (pv 0)))) (aU (i:=2) nd rfl (aH rfl))
  (af (br (aI Bu (ai (pv 2) rfl) (ai (pv 1) rfl) (aR _)) (ab (dh (pv 2) am iZ)
   (af (aN (pv 2) (aY (k4 rfl) rfl (T.bu _ zq_dk) (show bootBuiltins "max"=some (.builtin "max") by decide+kernel) (bA (ai (pv 2) rfl) (ai (pv 2) rfl))) rfl))) aK))),?_⟩
 try dsimp only [bx,Cx.dJ]
 refine⟨_,rfl,ma,p.m,jp p,rfl,O.dA,O.jobs,(by rw[wK];exact O.len),λ D hD=>?_⟩;rw[Q0 p];have up:ae H (aS H D (.aD ((jq p).map λ i=>V.ref (at_ p i).a))):=λ b o e=>by rw[ag (aM e hD)];exact e
 have hDr:D≠p.m.aB:=λ z=>by have:=O.run;rw[<-z,hD]at this;cases this
 obtain⟨ndI,VW⟩:=Hd p;refine⟨D,rfl,⟨_,aP.of aa⟩,eV (K:=K) (a:=D) (xs:=(jq p).map λ i=>V.ref (at_ p i).a)
  (λ t σ H'=>∃v:Option V,σ=[some (.ref ma),some (.ref r.a),v]/\lF C H' ma (((jq p).take t).foldl (eZ r.j.bh) p)/\cj C H'/\H' D=some (.aD ((jq p).map λ i=>V.ref (at_ p i).a))/\mU C ma p.m.aB (bo p) H H'/\bo (((jq p).take t).foldl (eZ r.j.bh) p)=bo p)
  ⟨none,rfl,O.keep (λ b o e _=>up b o e),(λ q hq=>(Tb q hq).ph up),aa,mU.same up,rfl⟩ (λ t σ H' _ ⟨_,_,_,_,ME,_⟩=>aP.of ME) ?_ ?_⟩
 .rintro t x σ H' hx ⟨v,rfl,O',Bh,ME,Bj,pr⟩
  obtain⟨i,hi,rfl⟩:∃i,(jq p)[t]?=some i/\x=V.ref (at_ p i).a:=by
   rw[aT]at hx;cases e:(jq p)[t]?with
   |none=>rw[e]at hx;cases hx
   |some i=>rw[e]at hx;exact⟨i,rfl,(cT hx).symm⟩
  have jF:=VW i (cH hi);obtain⟨hq,jY,gL,c2,c1,c3,c4⟩:=Ag (Hc r.j.bh) (λ p i k h=>ut r.j.bh p h) ndI hi jF;have sU:∃r'∈(((jq p).take t).foldl (eZ r.j.bh) p).js,r'.a=r.a/\r'.j.bh=r.j.bh:=by
   have hm:r.a∈bo (((jq p).take t).foldl (eZ r.j.bh) p):=by rw[pr];exact cY.mpr ⟨r,Z5,rfl⟩
   obtain⟨r',sU,ea⟩:=cY.mp hm;obtain⟨q0,h0,e1,e2⟩:=Cv r.j.bh _ p r' sU;have e3:q0=r:=by
    obtain⟨k1,hk1,ek1⟩:=gG h0;obtain⟨k2,Xl,ek2⟩:=gG Z5;have g1:(p.js.map (·.a))[k1]?=some r.a:=by rw[aT,ay hk1,ek1,<-ea,<-e1];rfl
    have g2:(p.js.map (·.a))[k2]?=some r.a:=by rw[aT,ay Xl,ek2];rfl
    have:=Gv O.nd g1 g2;subst this;exact ek1.symm.trans ek2
   exact⟨r',sU,ea,by rw[<-e2,e3]⟩
  obtain⟨p',Kh⟩:=bS (((jq p).take t).foldl (eZ r.j.bh) p);rw[<-Kh]at O' pr hq jY gL c1 c2 c3 c4 sU;obtain⟨q,Bk⟩:=bS (at_ p i);rw[<-Bk]at hq jY;have DT:q∈p'.js:=cH hq;obtain⟨dj,hj⟩:=O'.ja DT;obtain⟨dm,hm⟩:=O'.dA;obtain⟨r',ac2,iP,hrn⟩:=sU;obtain⟨dr,hrr⟩:=O'.ja ac2;rw[iP]at hrr;have VY:[some (V.ref ma),some (V.ref r.a),v].set 2 (some (V.ref (at_ p i).a))=[some (V.ref ma),some (V.ref r.a),some (V.ref q.a)]:=by rw[Bk];rfl
  show Kw _ _ _ _ ([some (V.ref ma),some (V.ref r.a),v].set 2 (some (V.ref (at_ p i).a))) H';rw[VY];have IS:eZ r.j.bh p' i=if¬q.j.bh=r.j.bh then{p' with js:=p'.js.set i {q with j:=pY q.j}}else p':=by
   unfold eZ;rw[jY]
  refine⟨_,rfl,rJ T hj 0 rfl rfl ⟨_,rfl,rJ T hrr 0 rfl rfl ⟨rfl,_,rfl,?_⟩⟩⟩;rw[gf,hrn];refine gP (λ h1=>?_) λ h1=>?_
  .have fZ:¬q.j.bh=r.j.bh:=by simpa using h1
   rw[au fZ]at IS;refine⟨_,rfl,rJ T hj 13 rfl rfl ⟨_,_,rfl,rfl,dj,_,hj,(by rw[JV.len];decide),?_⟩⟩;rw[JV.fU q.j {q.j with waited:=q.j.waited+1} (k:=13) rfl rfl];have t1:dP C H' _ ma q.a p'.m {q.j with waited:=q.j.waited+1}:=dP.gD (dj:=dj) ⟨dm,hm⟩ ⟨dj,hj⟩;generalize aS H' q.a _=H2 at t1;obtain⟨Cq,sy⟩:=t1.j;refine⟨_,rfl,rJ T sy 19 rfl rfl ⟨_,rfl,rJ T sy 13 rfl rfl ⟨_,_,rfl,_,rfl,wJ T sy ?_⟩⟩⟩;have e:({q.j with waited:=q.j.waited+1}:JV).f_.set 19 (.int (if q.j.waited+1>q.j.dF then q.j.waited+1 else q.j.dF))=(pY q.j).f_:=rfl;rw[JV.fU {q.j with waited:=q.j.waited+1} (pY q.j) (k:=19) rfl e];have t2:dP C H' _ ma q.a p'.m (pY q.j):=t1.trans (dP.gD (dj:=Cq) t1.m ⟨Cq,sy⟩);generalize aS H2 q.a _=H3 at t2;obtain⟨O4,Ki⟩:=O'.QW hq t2 rfl rfl rfl;refine⟨_,rfl,?_,Bh.fr ⟨dm,hm⟩ ⟨dj,hj⟩ t2,?_,Bj.trans ?_,?_⟩
   .rw[gL,IS];exact O4
   .exact t2.aD ⟨dm,hm⟩ ⟨dj,hj⟩ ME
   .rw[c2,pr]at Ki;exact Ki
   .rw[gL,IS];exact(jy (q':={q with j:=pY q.j}) hq rfl p'.m p'.run).trans pr
  .have fZ:¬¬q.j.bh=r.j.bh:=by simpa using h1
   rw[ao fZ]at IS;exact⟨_,rfl,by rw[gL,IS];exact O',Bh,ME,Bj,by rw[gL,IS];exact pr⟩
 .rintro σ H' ⟨v,rfl,O',Bh,ME,Bj,pr⟩
  rw[ak,km]at O' pr;exact k H' O' Bh Bj pr
def JWf(i:Nat)(q:PJ):Prop:=q.j.bh=(i:Int)/\0<=q.j.bX/\q.ps≠[]/\0<q.j.shares/\q.j.shares<1073741824/\0<=q.j.level/\q.j.level<=3/\(q.j.aF=2 ->q.j.bX+1<q.ps.length)/\(q.j.aF=0 ->q.j.bX<q.ps.length)
theorem kO.set{p:PM}(W:kO p){m':MV}(hm:ye m'){i:Nat}{q':PJ}(hq:i<p.js.length ->JWf i q')(r:List Int):kO {m:=m',js:=p.js.set i q',run:=r}:=by
 refine⟨hm,λ k q hk=>?_⟩;have gj:(p.js.set i q')[k]?=some q:=hk;by_cases QY:k=i
 .subst QY;by_cases hl:k<p.js.length
  .rw[qF hl]at gj;cases gj;exact hq hl
  .rw[MJ ah]at gj;exact W.job k q gj
 .rw[o9 (λ z=>QY z.symm)]at gj;exact W.job k q gj
theorem kO.at_{p:PM}(W:kO p){i:Nat}(h:i<p.js.length):JWf i (JS.at_ p i):=W.job i _ (fO h)
theorem ye.turn{m:MV}(h:ye m):ye (iN m):=⟨h.ZY,h.ZZ,h.QO,h.Mm⟩
theorem kO.eK{p:PM}(W:kO p)(i:Nat):kO (eK p i):=by
 unfold JS.eK;split
 .refine W.set W.ok.turn (λ hl=>?_) _;obtain⟨a1,a2,a3,a4,a5,a6,a7,_,_⟩:=W.at_ hl;exact⟨a1,by show 0<=(JS.at_ p i).j.bX+1;omega,a3,a4,a5,a6,a7,λ z=>absurd (show(1:Int)=2 from z) zq_dc,λ z=>absurd (show(1:Int)=0 from z) zq_dc⟩
 .exact W
theorem kO.fV{p:PM}(W:kO p)(i:Nat):kO (fV p i):=by
 unfold JS.fV;split
 .refine W.set W.ok.turn (λ hl=>?_) _;obtain⟨a1,a2,a3,a4,a5,a6,a7,_,_⟩:=W.at_ hl;exact⟨a1,a2,a3,a4,a5,a6,a7,λ z=>absurd (show(1:Int)=2 from z) zq_dc,λ z=>absurd (show(1:Int)=0 from z) zq_dc⟩
 .exact W
theorem kO.iO{p:PM}(W:kO p)(i:Nat):kO (iO p i):=by
 refine W.set W.ok (λ hl=>?_) _;obtain⟨a1,a2,a3,a4,a5,a6,a7,a8,a9⟩:=W.at_ hl;exact⟨a1,a2,a3,a4,a5,Int.le_refl 0,by show(0:Int)<=3;decide,a8,a9⟩
theorem kO.eZ{p:PM}(W:kO p)(r:Int)(i:Nat):kO (eZ r p i):=by
 unfold JS.eZ;split
 .refine W.set W.ok (λ hl=>?_) _;exact W.at_ hl
 .exact W
theorem kO.fold{f:PM ->Nat ->PM}(h:∀p i,kO p ->kO (f p i)):∀(l:List Nat)(p:PM),kO p ->kO (l.foldl f p)
 |[],_,W=>W
 |i::l,p,W=>kO.fold h l (f p i) (h p i W)
theorem kO.jT{p:PM}(W:kO p):kO (jT p):=kO.fold (λ _ i W=>W.eK i) _ _ W
theorem kO.lx{p:PM}(W:kO p):kO (lx p):=kO.fold (λ _ i W=>W.fV i) _ _ W
theorem kO.jU{p:PM}(W:kO p):kO (jU p):=by
 unfold JS.jU;split
 .exact kO.fold (λ _ i W=>W.iO i) _ _ W
 .exact W
theorem kO.mL{p:PM}(W:kO p)(r:Int):kO (mL r p):=kO.fold (λ _ i W=>W.eZ r i) _ _ W
structure Cw(p p':PM):Prop where
 jobs:p'.m.jobs=p.m.jobs
 aB:p'.m.aB=p.m.aB
 now:p'.m.now=p.m.now
 len:p'.js.length=p.js.length
 run:p'.run=p.run
theorem EO(p:PM):Cw p (jT p):=let⟨a,b,c,d,e,_⟩:=dY Hb (λ p i k h=>ur p h) (iq p) p;⟨a,b,c,d,e⟩
theorem EQ(p:PM):Cw p (lx p):=let⟨a,b,c,d,e,_⟩:=dY Ae (λ p i k h=>om p h) (bf p.js.length) p;⟨a,b,c,d,e⟩
theorem ER(p:PM):Cw p (jU p):=by
 unfold JS.jU;split
 .exact let⟨a,b,c,d,e,_⟩:=dY Af (λ p i k h=>on p h) (bf p.js.length) p;⟨a,b,c,d,e⟩
 .exact⟨rfl,rfl,rfl,rfl,rfl⟩
theorem ES(r:Int)(p:PM):Cw p (mL r p):=let⟨a,b,c,d,e,_⟩:=dY (Hc r) (λ p i k h=>ut r p h) (jq p) p;⟨a,b,c,d,e⟩
theorem Cw.trans{p q r:PM}(a:Cw p q)(b:Cw q r):Cw p r:=⟨b.jobs.trans a.jobs,b.aB.trans a.aB,b.now.trans a.now,b.len.trans a.len,b.run.trans a.run⟩
def oo(p:PM):Option Nat:=match(jq p).map λ i=>(gJ p.m (at_ p i).j,i)with
 |[]=>none
 |b::r=>some (pick HT.lexLt b r).2
theorem wL{α β γ:Type}(lt:α ->α ->Bool)(g:β ->γ):∀(r:List (α×β))(b:α×β),pick lt (b.1,g b.2) (r.map λ z=>(z.1,g z.2))=((pick lt b r).1,g (pick lt b r).2)
 |[],b=>rfl
 |c::r,b=>by
  have e1:pick lt b (c::r)=if lt c.1 b.1=true then pick lt c r else pick lt b r:=rfl
  show(if lt c.1 b.1=true then pick lt (c.1,g c.2) (r.map λ z=>(z.1,g z.2))else pick lt (b.1,g b.2) (r.map λ z=>(z.1,g z.2)))=_;rw[e1];by_cases h:lt c.1 b.1=true
  .rw[au h,au h];exact wL lt g r c
  .rw[ao h,ao h];exact wL lt g r b
theorem rB{α β:Type}(lt:α ->α ->Bool):∀(r:List (α×β))(b:α×β),pick lt b r∈b::r
 |[],b=>fM
 |c::r,b=>by
  unfold pick;split
  .exact ff _ (rB lt r c)
  .rcases eB.mp (rB lt r b)with h|h
   .rw[h];exact fM
   .exact ff _ (ff _ h)
theorem IT(p:PM):wD p.m (jp p)=match oo p with|none=>V.bu|some i=>V.ref (at_ p i).a:=by
 have e:mJ p.m (qB (jp p))=((jq p).map λ i=>(gJ p.m (at_ p i).j,i)).map λ z=>(z.1,V.ref (at_ p z.2).a):=by
  unfold mJ qB jp jq;rw[oX default (λ q:PJ=>(q.a,q.j)) p.js,mw,bB,bB];rfl
 unfold wD oo;rw[e];cases(jq p).map λ i=>(gJ p.m (at_ p i).j,i)with
 |nil=>rfl
 |cons b r=>
  show(pick HT.lexLt (b.1,V.ref (at_ p b.2).a) (r.map λ z=>(z.1,V.ref (at_ p z.2).a))).2=_;rw[wL HT.lexLt (λ i=>V.ref (at_ p i).a)]
theorem IU{p:PM}{i:Nat}(h:oo p=some i):i<p.js.length:=by
 unfold oo at h;cases e:(jq p).map λ i=>(gJ p.m (at_ p i).j,i)with
 |nil=>rw[e]at h;cases h
 |cons b r=>
  rw[e]at h;have h':(pick HT.lexLt b r).2=i:=cT h;have hm:=rB HT.lexLt r b;rw[<-e]at hm;obtain⟨k,hk,ek⟩:=cY.mp hm;have:k=i:=by rw[<-h',<-ek]
  rw[<-this];exact(Hd p).2 k hk
def Q6(p:PM)(i:Nat):PM:=
 let w:=mL (at_ p i).j.bh p
 let q:=at_ w i
 let r:=eD w.m q.j q.ps
 let s:=cq r.1 r.2
 {m:=s.1,js:=w.js.set i {q with j:=s.2},run:=w.run++[s.2.bh]}
def rC(a:PM):PM:=match oo a with
 |none=>{a with m:={a.m with current:=.bu},run:=a.run++[-1]}
 |some i=>Q6 a i
def rD(p:PM):PM:=let b:=rC (jU (lx (jT p)));{b with m:={b.m with now:=b.m.now+1}}
theorem cj.jb{C:CA}{H H':Hp}{Pt:Addr}{qn:Str}(h:cj C H)(VU:(Pt,qn)∈C.cE)(hTn:∀q∈C.cE,q.1=Pt ->q.2=qn)(sp:cX Pt H H')(T:qj H' Pt qn):cj C H':=λ q hq=>by
 obtain⟨ps0,Z6⟩:=(h _ VU).is;by_cases VV:q.1=Pt
 .rw[hTn q hq VV,VV];exact T
 .obtain⟨tr,a1,a2⟩:=h q hq;exact⟨tr,sp _ _ a1 VV,λ t ht=>sp _ _ (a2 t ht) λ z=>by have:=a2 t ht;rw[z,Z6]at this;cases this⟩
theorem lF.jb{C:CA}{H H':Hp}{ma Pt:Addr}{p:PM}{ps:Array aq}(O:lF C H ma p)(hP:H Pt=some (.tP ps))(sp:cX Pt H H'):lF C H' ma p:=O.keep λ b o e n=>sp b o e λ z=>by
 rw[z,hP]at e;exact n _ (cT e).symm
theorem lF.EJ{C:CA}{H:Hp}{ma dm:Addr}{p:PM}{m':MV}(O:lF C H ma p)(e1:m'.jobs=p.m.jobs)(e2:m'.aB=p.m.aB):lF C (aS H ma (.bD C.cM dm m'.fs)) ma {p with m:=m'}/\cX ma H (aS H ma (.bD C.cM dm m'.fs)):=by
 obtain⟨d0,hm⟩:=O.dA;have sp:cX ma H (aS H ma (.bD C.cM dm m'.fs)):=λ b o e n=>by rw[ag n];exact e
 have lk:∀{b:Addr}{xs:List V},H b=some (.aD xs) ->aS H ma (.bD C.cM dm m'.fs) b=some (.aD xs):=λ{b xs} e=>sp b _ e (io e hm)
 refine⟨⟨⟨dm,aa⟩,?_,?_,O.nd,λ q hq=>?_,?_,O.len⟩,sp⟩
 .show aS H ma _ m'.jobs=_;rw[e1];exact lk O.aD
 .show aS H ma _ m'.aB=_;rw[e2];exact lk O.run
 .obtain⟨⟨dx,b1⟩,b2,b3,b4⟩:=O.at_ q hq;show _/\_/\q.j.parts≠m'.aB/\q.j.parts≠m'.jobs;rw[e1,e2];exact⟨⟨dx,sp _ _ b1 (O.TH hq).symm⟩,lk b2,b3,b4⟩
 .show m'.jobs≠m'.aB;rw[e1,e2];exact O.ne
theorem lF.push{C:CA}{H:Hp}{ma:Addr}{p:PM}{n:Int}(O:lF C H ma p):lF C (aS H p.m.aB (.aD (p.run.map V.int++[V.int n]))) ma {p with run:=p.run++[n]}/\cX p.m.aB H (aS H p.m.aB (.aD (p.run.map V.int++[V.int n]))):=by
 obtain⟨d0,hm⟩:=O.dA;have sp:cX p.m.aB H (aS H p.m.aB (.aD (p.run.map V.int++[V.int n]))):=λ b o e k=>by rw[ag k];exact e
 refine⟨⟨⟨d0,sp _ _ hm (io O.run hm).symm⟩,sp _ _ O.aD O.ne,?_,O.nd,λ q hq=>?_,O.ne,O.len⟩,sp⟩
 .show aS H p.m.aB _ p.m.aB=some (.aD ((p.run++[n]).map V.int));rw[aa,dZ];rfl
 .obtain⟨⟨dx,b1⟩,b2,b3,b4⟩:=O.at_ q hq;exact⟨⟨dx,sp _ _ b1 (io O.run b1).symm⟩,sp _ _ b2 b3,b3,b4⟩
theorem cj.BE{C:CA}{H H':Hp}{a:Addr}{o:HO}(h:cj C H)(ho:H a=some o)(hn:∀ps,o≠.tP ps)(hx:∀c q,o≠qY c q)(sp:cX a H H'):cj C H':=λ q hq=>by
 obtain⟨tr,a1,a2⟩:=h q hq;refine⟨tr,sp _ _ a1 λ z=>?_,λ t ht=>sp _ _ (a2 t ht) λ z=>?_⟩
 .rw[z,ho]at a1;exact hn _ (cT a1)
 .have:=a2 t ht;rw[z,ho]at this;exact hx _ _ (cT this)
theorem Cy(m:MV)(j:JV)(ps:List Int):(eD m j ps).1.jobs=m.jobs/\(eD m j ps).1.aB=m.aB/\(eD m j ps).2.parts=j.parts/\(eD m j ps).2.level=j.level/\(eD m j ps).2.bh=j.bh:=by
 unfold eD g7 kM;split
 .split
  .split<;>exact⟨rfl,rfl,rfl,rfl,rfl⟩
  .split
   .split<;>exact⟨rfl,rfl,rfl,rfl,rfl⟩
   .exact⟨rfl,rfl,rfl,rfl,rfl⟩
 .exact⟨rfl,rfl,rfl,rfl,rfl⟩
theorem Ah(m:MV)(j:JV):(cq m j).1.jobs=m.jobs/\(cq m j).1.aB=m.aB/\(cq m j).2.parts=j.parts/\(cq m j).2.bh=j.bh:=by
 unfold cq iD kN;dsimp only;split
 .exact⟨rfl,rfl,rfl,rfl⟩
 .split
  .split<;>exact⟨rfl,rfl,rfl,rfl⟩
  .split
   .exact⟨rfl,rfl,rfl,rfl⟩
   .split
    .split<;>exact⟨rfl,rfl,rfl,rfl⟩
    .exact⟨rfl,rfl,rfl,rfl⟩
theorem mU.BE{C:CA}{ma ra a:Addr}{as:List Addr}{H H1:Hp}(h:Ft C ma ra as a)(sp:cX a H H1):mU C ma ra as H H1:=λ c o e n=>sp c o e λ z=>n (z▸h)
theorem IV(p:PM)(i:Nat)(q':PJ)(h:q'.a=(at_ p i).a)(m:MV)(r:List Int):bo {m:=m,js:=p.js.set i q',run:=r}=bo p:=by
 by_cases hl:i<p.js.length
 .exact jy (fO hl) h m r
 .unfold bo;rw[MJ ah]
theorem Cz(p:PM)(i:Nat):bo (eK p i)=bo p:=by
 unfold eK;split
 .unfold qp;exact IV p i {a:=(at_ p i).a,j:=pX p.m {(at_ p i).j with bX:=(at_ p i).j.bX+1} ((at_ p i).ps.getD ((at_ p i).j.bX+1).toNat 0),ps:=(at_ p i).ps} rfl (iN p.m) p.run
 .rfl
theorem wN{f:PM ->Nat ->PM}(h:∀p i,bo (f p i)=bo p):∀(l:List Nat)(p:PM),bo (l.foldl f p)=bo p
 |[],_=>rfl
 |i::l,p=>(wN h l (f p i)).trans (h p i)
def ET(C:CA):Sp:=λ vs H Q _=>∃(ma:Addr)(p:PM),vs=[.ref ma]/\lF C H ma p/\kO p/\cj C H/\p.run.length<100000/\∀H',lF C H' ma (rD p) ->cj C H' ->mU C ma p.m.aB (bo p) H H' ->bo (rD p)=bo p ->Q .bu H'
def wO(C:CA)(Pt:Addr)(qn:Str):Prop:=(Pt,qn)∈C.cE/\∀q∈C.cE,q.1=Pt ->q.2=qn
theorem Q7{f Pf:Addr}{fd:bp}(F:bi K "tick" Mg f fd)(T:Txt K mg C)(Z9:wO C Pf wE)(D1:cF P w K mg base "wake_sleepers" [b8] 8 (MD C))(D2:cF P w K mg base "let_in_coming" [b8] 3 (MG C))(D3:cF P w K mg base "lift_levels" [b8] 1 (MH C))
  (D4:cF P w K mg base "first_ready" [b8] 6 (G7 C Pf)) (D5:cF P w K mg base "let_others_wait" [b8,"runner"] 2 (MI C)) (D6:cF P w K mg base "run_one_tick_machine" [b8,dL] 4 (TC C)) (D7:cF P w K mg base "settle" [b8,dL] 3 (Cr C)):
  bj P w K mg base CX0 9 f fd [b8] (ET C):=by
 refine F.ok [b8,"runner"] λ b_ A aA s H vs Q E hr h nd=>?_
 obtain⟨ma,p,rfl,O,W,Tb,hrl,k⟩:=h;refine⟨_,ab (bz (al D1 hr rfl (aO (pv 0)))) (ab (bz (al D2 (hr.bI zq_dc) rfl (aO (pv 0)))) (ab (bz (al D3 (hr.bI zq_dc) rfl (aO (pv 0))))
  (ab (bg (i:=1) nd rfl (aH rfl) (al D4 (hr.bI zq_dc) rfl (aO (pv 0))))
  (ab (br (UZ (UY (pv 1)))
   (ab (aN (pv 0) fC rfl) (af (bz (iK jc yF CC jx (ai (pv 0) rfl) (aO (cN (T.i (n:=-1) zq_dk) rfl))))))
   (ab (bz (al D5 (hr.bI zq_dc) rfl (bA (pv 0) (pv 1)))) (ab (bz (al D6 (hr.bI zq_dc) rfl (bA (pv 0) (pv 1)))) (ab (bz (al D7 (hr.bI zq_dc) rfl (bA (pv 0) (pv 1))))
    (af (bz (iK jc yF CC jx (ai (pv 0) rfl) (aO (ai (pv 1) rfl)))))))))
  (af (dh (pv 0) am iZ)))))),?_⟩
 try dsimp only [bx,Cx.dJ]
 refine⟨_,rfl,ma,p,rfl,O,W,Tb,λ H1 O1 T1 f1=>?_⟩;have K1:=EO p;have W1:=W.jT;have ad1:bo (jT p)=bo p:=wN Cz _ _;refine⟨_,rfl,ma,jT p,rfl,O1,W1,T1,λ H2 O2 T2 f2 ad2=>?_⟩;have K2:=K1.trans (EQ (jT p));have W2:=W1.lx;refine⟨_,rfl,ma,lx (jT p),rfl,O2,W2.ok.Mm,T2,λ H3 O3 T3 f3 ad3=>?_⟩;have K3:=K2.trans (ER (lx (jT p)));have W3:=W2.jU;rw[K1.aB,ad1]at f2;rw[K2.aB,ad2,ad1]at f3;have VZ:=(f1.trans f2).trans f3;have Z_:bo (jU (lx (jT p)))=bo p:=ad3.trans (ad2.trans ad1);have kt:∀H',lF C H' ma (rD p) ->cj C H' ->mU C ma p.m.aB (bo p) H H' ->bo (rD p)=bo p ->Q .bu H':=k;unfold rD at kt;obtain⟨a,ha⟩:=bS (jU (lx (jT p)));rw[<-ha]at O3 K3 W3 Z_ kt;clear k O1 O2 T1 T2 f1 f2 f3 ad1 ad2 ad3 K1 K2 W1 W2;have IW:a.run.length<100000:=by rw[K3.run];exact hrl
 refine⟨_,rfl,ma,a.m,jp a,rfl,O3.dA,O3.jobs,(by rw[wK];exact O3.len),W3.ok,T3 _ Z9.1,λ H4 TQ Tb4=>?_⟩;obtain⟨ps4,hP4⟩:=(T3 _ Z9.1).is;have O4:=O3.jb hP4 TQ;have T4:=T3.jb Z9.1 Z9.2 TQ Tb4;have f4:mU C ma p.m.aB (bo p) H H4:=VZ.trans (mU.tab (cY.mpr ⟨_,Z9.1,rfl⟩) TQ);rw[IT a];have last:∀(σ:L2.St)(H5:Hp)(b:PM),σ[0]?=some (some (V.ref ma)) ->lF C H5 ma b ->cj C H5 ->mU C ma p.m.aB (bo p) H H5 ->bo b=bo p ->rC a=b ->
   Gd K (bQ 0) (tC (.int 1)) Yf "now" {nx:=λ _ H'=>Q .bu H',rt:=Q} σ H5:=λ σ H5 b hσ O5 T5 f5 Xv hb=>by
  obtain⟨dm,hm⟩:=O5.dA;refine⟨_,hσ,ma,C.cM,dm,_,_,rfl,hm,T.iX,T.nM _ zq_dk,b.m.get (k:=4) rfl rfl,_,_,rfl,rfl,dm,_,hm,bR,?_⟩;rw[b.m.fU {b.m with now:=b.m.now+1} (k:=4) rfl rfl];obtain⟨O6,sp6⟩:=O5.EJ (dm:=dm) (m':={b.m with now:=b.m.now+1}) rfl rfl;rw[hb]at kt;exact kt _ O6 (T5.BE hm (by intro ps z;cases z) (by intro c q z;cases z) sp6) (f5.trans (mU.BE (.inl rfl) sp6)) Xv
 cases hf:oo a with
 |none=>
  refine⟨_,rfl,_,rfl,acL ?_⟩;obtain⟨dm,hm⟩:=O4.dA;refine⟨_,rfl,wM T hm ?_⟩;rw[a.m.fU {a.m with current:=.bu} (k:=7) rfl rfl];obtain⟨O5,sp5⟩:=O4.EJ (dm:=dm) (m':={a.m with current:=.bu}) rfl rfl;have T5:=T4.BE hm (by intro ps z;cases z) (by intro c q z;cases z) sp5;generalize aS H4 ma _=H5 at O5 sp5 T5;obtain⟨dm5,Xt⟩:=O5.dA;refine⟨_,rfl,ma,C.cM,dm5,_,V.ref a.m.aB,rfl,Xt,T.iX,T.nM _ zq_dk,MV.get _ (k:=9) rfl rfl,.inl ⟨rfl,_,aP.of O5.run⟩,a.m.aB,_,_,rfl,rfl,O5.run,(by show(a.run.map V.int).length<sizeLine;rw[ak];exact iY IW zq_dc),?_⟩;obtain⟨O6,sp6⟩:=O5.push (n:=-1);have V0:a.m.aB=p.m.aB:=K3.aB;refine last _ _ {a with m:={a.m with current:=.bu},run:=a.run++[-1]} rfl O6 (T5.BE O5.run (by intro ps z;cases z) (by intro c q z;cases z) sp6) ((f4.trans (mU.BE (.inl rfl) sp5)).trans (mU.BE (.inr (.inl V0)) sp6)) Z_ ?_;unfold rC;rw[hf]
 |some i=>
  have jF:=IU hf;have hqa:=fO jF;have DT:at_ a i∈a.js:=cH hqa
  refine⟨_,rfl,_,rfl,acK ?_⟩;refine⟨_,rfl,_,rfl,ma,(at_ a i).a,a,at_ a i,rfl,O4,DT,rfl,T4,λ H5 O5 T5 f5 Xv=>?_⟩;have K5:=ES (at_ a i).j.bh a;have W5:=W3.mL (at_ a i).j.bh;rw[K3.aB,Z_]at f5;have f45:=f4.trans f5;obtain⟨b,hb⟩:=bS (mL (at_ a i).j.bh a);rw[<-hb]at O5 Xv K5 W5;have aaa:i<b.js.length:=by rw[K5.len];exact jF
  have hqb:=fO aaa;have aab:at_ b i∈b.js:=cH hqb
  have V1:=W5.at_ aaa;obtain⟨q,Bk⟩:=bS (at_ b i);have haq:(at_ a i).a=q.a:=by
   have h1:(bo b)[i]?=some q.a:=by unfold bo;rw[aT,hqb,Bk];rfl
   have h2:(bo a)[i]?=some (at_ a i).a:=by unfold bo;rw[aT,hqa];rfl
   rw[Xv,h2]at h1;exact cT h1
  rw[<-Bk]at hqb aab V1;obtain⟨Xw,hpb,_,_⟩:=O5.at_ q aab;rw[<-haq]at Xw;refine⟨_,rfl,_,rfl,ma,(at_ a i).a,b.m,q.j,q.ps,rfl,O5.dA,Xw,hpb,V1.2.1,V1.2.2.1,V1.2.2.2.1,V1.2.2.2.2.1,λ H6 t6=>?_⟩;obtain⟨r1,r2,r3,r4,r5⟩:=Cy b.m q.j q.ps;refine⟨_,rfl,_,rfl,ma,(at_ a i).a,(eD b.m q.j q.ps).1,(eD b.m q.j q.ps).2,rfl,t6.m,t6.j,(by rw[r4];exact V1.2.2.2.2.2.1),(by rw[r4];exact V1.2.2.2.2.2.2.1),λ H7 t7=>?_⟩;obtain⟨s1,s2,s3,s4⟩:=Ah (eD b.m q.j q.ps).1 (eD b.m q.j q.ps).2;have t67:=t6.trans t7;obtain⟨O7,f7⟩:=O5.QW hqb (haq▸t67) (s1.trans r1) (s2.trans r2) (s3.trans r3);have T7:=T5.fr O5.dA Xw t67;obtain⟨S,hS⟩:=bS (cq (eD b.m q.j q.ps).1 (eD b.m q.j q.ps).2);rw[<-hS]at O7 t7 s1 s2 s3 s4;obtain⟨dm7,hm7⟩:=t7.m;obtain⟨dj7,hj7⟩:=t7.j;have hrr:S.1.aB=b.m.aB:=s2.trans r2;have hrb:b.m.aB=p.m.aB:=K5.aB.trans K3.aB;have aac:b.run.length<100000:=by rw[K5.run];exact IW
  have V2:=O7.run;refine⟨_,rfl,ma,C.cM,dm7,_,V.ref S.1.aB,rfl,hm7,T.iX,T.nM _ zq_dk,MV.get _ (k:=9) rfl rfl,.inl ⟨rfl,_,aP.of V2⟩,_,rfl,rJ T hj7 0 rfl rfl ⟨S.1.aB,_,_,rfl,rfl,V2,(by show(b.run.map V.int).length<sizeLine;rw[ak];exact iY aac zq_dc),?_⟩⟩;obtain⟨O8,sp8⟩:=O7.push (n:=S.2.bh);rw[hrb,Xv,Z_]at f7;have had:bo {m:=S.1,js:=b.js.set i {q with j:=S.2},run:=b.run++[S.2.bh]}=bo p:=(jy (q':={q with j:=S.2}) hqb rfl S.1 (b.run++[S.2.bh])).trans (Xv.trans Z_);refine last _ _ _ rfl O8 (T7.BE V2 (by intro ps z;cases z) (by intro c q z;cases z) sp8) ((f45.trans f7).trans (mU.BE (.inr (.inl (hrr.trans hrb))) sp8)) had ?_;unfold rC Q6;rw[hf];dsimp only;rw[<-hb,<-Bk,<-hS]
end
end JS
namespace JS
open Vbtkad
theorem MK:0<eN:=by decide
theorem Hf{N D T:Nat}(hD:0<D)(h:N*eN=D*T):uW (frac N D)/\fI (frac N D)=T:=by
 have hg:0<eW N D:=aad N hD;have e:frac N D=⟨N/eW N D,D/eW N D⟩:=by
  unfold frac;dsimp only;rw[ao ah]
 rw[e];obtain⟨n',hn⟩:=Nat.gcd_dvd_left N D;obtain⟨d',hd⟩:=Nat.gcd_dvd_right N D;have en:N/eW N D=n':=by
  conv=>lhs;lhs;rw[hn]
  exact zb _ hg
 have ed:D/eW N D=d':=by
  conv=>lhs;lhs;rw[hd]
  exact zb _ hg
 have hc:Nat.Coprime n' d':=by
  have:=Nat.coprime_div_gcd_div_gcd hg;rw[en,ed]at this;exact this
 rw[en,ed];have h2:n'*eN=d'*T:=by
  refine aae hg ?_;rw[<-CD,<-CD,<-hn,<-hd];exact h
 have hd0:0<d':=by
  rcases aaf d' with z|z
  .rw[z,TR]at hd;omega
  .exact z
 have hdv:d'∣eN:=by
  refine Nat.Coprime.dvd_of_dvd_mul_left (k:=d') (m:=n') hc.symm ?_;rw[h2];exact Nat.dvd_mul_right _ _
 refine⟨⟨hd0,hdv,hc⟩,?_⟩;show n'*(eN/d')=T;obtain⟨k,hk⟩:=hdv;have e1:eN/d'=k:=by
  conv=>lhs;lhs;rw[hk]
  exact zb _ hd0
 rw[e1];refine aae hd0 ?_;rw[<-h2]
 conv=>rhs;rw[hk]
 rw[aag]
theorem uW.eq{f:Frac}(h:uW f):f.n*eN=f.d*fI f:=by
 unfold fI;obtain⟨k,hk⟩:=h.dvd;have e1:eN/f.d=k:=by
  conv=>lhs;lhs;rw[hk]
  exact zb _ h.pos
 rw[e1]
 conv=>lhs;rw[hk]
 rw[aag]
theorem Q8{a b:Frac}(ha:uW a)(hb:uW b):uW (plus a b)/\fI (plus a b)=fI a+fI b:=by
 unfold plus;refine Hf (Nat.mul_pos ha.pos hb.pos) ?_;have h1:=ha.eq;have h2:=hb.eq
 calc
  (a.n*b.d+b.n*a.d)*eN=b.d*(a.n*eN)+a.d*(b.n*eN):=by
    rw[Hg,j9 a.n b.d,j9 b.n a.d,CD,CD]
  _=b.d*(a.d*fI a)+a.d*(b.d*fI b):=by rw[h1,h2]
  _=a.d*b.d*(fI a+fI b):=by
    rw[ML,<-CD,<-CD,j9 b.d a.d]
theorem MM{s:Nat}(h1:1<=s)(h2:s<=100):uW (frac 1 s)/\fI (frac 1 s)=eN/s:=by
 have hd:s∣eN:=by
  have all:∀s:Fin 101,s.val=0\/s.val∣eN:=zq_dk;rcases all ⟨s,ah⟩with z|z
  .exact absurd (show s=0 from z) ah
  .exact z
 refine Hf ah ?_;rw[MO,Nat.mul_div_cancel' hd]
theorem sV{a b:Frac}(ha:uW a)(hb:uW b):below a b=decide (fI a<fI b):=by
 unfold below;have h1:=ha.eq;have h2:=hb.eq;have key:a.n*b.d<b.n*a.d↔fI a<fI b:=by
  have hp:0<a.d*b.d:=Nat.mul_pos ha.pos hb.pos;have e1:a.n*b.d*eN=a.d*b.d*fI a:=by
   rw[MP,h1,MP]
  have e2:b.n*a.d*eN=a.d*b.d*fI b:=by
   rw[MP,h2,MP,j9 b.d a.d]
  constructor
  .intro h;have h3:a.n*b.d*eN<b.n*a.d*eN:=Nat.mul_lt_mul_of_pos_right h MK;rw[e1,e2]at h3;exact Nat.lt_of_mul_lt_mul_left h3
  .intro h;have h3:a.d*b.d*fI a<a.d*b.d*fI b:=Nat.mul_lt_mul_of_pos_left h hp;rw[<-e1,<-e2]at h3;exact Nat.lt_of_mul_lt_mul_right h3
 by_cases h:fI a<fI b
 .rw[bO h,bO (key.mpr h)]
 .rw[gh h,gh (λ z=>h (key.mp z))]
theorem lU{a b:Frac}(ha:uW a)(hb:uW b):uW (greater a b)/\((fI (greater a b):Nat):Int)=mx (fI a) (fI b):=by
 unfold greater mx;rw[sV ha hb];by_cases h:fI a<fI b
 .rw[au (by simpa using h),au (show((fI b:Nat):Int)>(fI a:Nat) by omega)];exact⟨hb,rfl⟩
 .rw[ao (by simpa using h),ao (show¬((fI b:Nat):Int)>(fI a:Nat) by omega)];exact⟨ha,rfl⟩
theorem Q9:uW {}:=⟨zq_dc,⟨eN,by rw[MO]⟩,zq_dc⟩
theorem Hh{f:Frac}(h:uW f):f.n=fI f/eW (fI f) eN/\f.d=eN/eW (fI f) eN:=by
 obtain⟨k,hk⟩:=h.dvd;have Pq:0<k:=by
  rcases aaf k with z|z
  .rw[z,TR]at hk;exact absurd hk zq_dc
  .exact z
 have e1:eN/f.d=k:=by
  conv=>lhs;lhs;rw[hk]
  exact zb _ h.pos
 have e2:fI f=f.n*k:=by unfold fI;rw[e1]
 have e3:eW (fI f) eN=k:=by
  rw[e2]
  conv=>lhs;rw[hk]
  rw[j9 f.n k,j9 f.d k,Nat.gcd_mul_left,h.low,Nat.mul_one]
 rw[e3,e2];refine⟨(aah _ Pq).symm,?_⟩
 conv=>rhs;lhs;rw[hk]
 exact(aah _ Pq).symm
theorem sW{κ:Type}(lt:κ ->κ ->Bool)(key:Nat ->κ)(fU:Nat ->List Nat ->List Nat)(c:Nat ->Nat ->Bool)(h0:∀j,fU j []=[j])(h1:∀j k r,fU j (k::r)=if c j k=true then j::k::r else k::fU j r)
  (hk:∀j k,c j k=lt (key j) (key k)) (l:List Nat):l.foldl (λ acc j=>fU j acc) []=(MS.eI lt (l.map λ i=>(key i,i))).map (·.2):=by
 have V3:∀(j:Nat)(r:List Nat),MS.bD lt (key j,j) (r.map λ i=>(key i,i))=(fU j r).map λ i=>(key i,i):=by
  intro j r;induction r with
  |nil=>rw[h0];rfl
  |cons k r ih=>
   rw[h1,hk];show(if lt (key j) (key k)=true then _ else _)=_;by_cases h:lt (key j) (key k)=true
   .rw[au h,au h];rfl
   .rw[ao h,ao h,dW,ih]
 have go:∀(l acc:List Nat),(l.map λ i=>(key i,i)).foldl (λ a z=>MS.bD lt z a) (acc.map λ i=>(key i,i))=(l.foldl (λ acc j=>fU j acc) acc).map λ i=>(key i,i):=by
  intro l;induction l with
  |nil=>intro acc;rfl
  |cons j r ih=>
   intro acc;show(r.map λ i=>(key i,i)).foldl (λ a z=>MS.bD lt z a) (MS.bD lt (key j,j) (acc.map λ i=>(key i,i)))=_;rw[V3,ih];rfl
 have:=go l [];unfold MS.eI;rw[show(([]:List (κ×Nat))=([]:List Nat).map λ i=>(key i,i)) from rfl,this,bB];exact(uq _).symm
theorem EU{α β:Type}(lt:α ->α ->Bool):∀(r:List (α×β))(b:α×β),(MS.eI lt (b::r)).head?=some (L2.pick lt b r):=by
 have aai:∀(z h:α×β)(t:List (α×β)),(MS.bD lt z (h::t)).head?=some (if lt z.1 h.1=true then z else h):=by
  intro z h t;show(if lt z.1 h.1=true then z::h::t else h::MS.bD lt z t).head?=_;split<;>rfl
 have go:∀(r:List (α×β))(h:α×β)(t:List (α×β)),(r.foldl (λ a z=>MS.bD lt z a) (h::t)).head?=some (L2.pick lt h r):=by
  intro r;induction r with
  |nil=>intro h t;rfl
  |cons z r ih=>
   intro h t;have e1:L2.pick lt h (z::r)=if lt z.1 h.1=true then L2.pick lt z r else L2.pick lt h r:=rfl
   show(r.foldl (λ a z=>MS.bD lt z a) (MS.bD lt z (h::t))).head?=_;have e2:MS.bD lt z (h::t)=if lt z.1 h.1=true then z::h::t else h::MS.bD lt z t:=rfl
   rw[e1,e2];by_cases q:lt z.1 h.1=true
   .rw[au q,au q];exact ih z (h::t)
   .rw[ao q,ao q];exact ih h (MS.bD lt z t)
 intro r b;exact go r b []
theorem Ai(a b c d:Int):HT.lexLt [a,b] [c,d]=(decide (a<c)||(decide (a=c)&&decide (b<d))):=by
 show(if a=c then(if b=d then false else decide (b<d))else decide (a<c))=_;by_cases h:a=c
 .subst h;rw[au rfl];by_cases h2:b=d
  .subst h2;simp
  .rw[ao h2];simp
 .rw[ao h];by_cases h3:a<c<;>simp[h,h3]
def slK(m:ax)(i:Nat):List Int:=[((jobAt m i).wake:Int),((jobAt m i).turn:Int)]
theorem uu(m:ax):sleepers m=(MS.eI HT.lexLt (((bf m.jobs.length).filter λ j=>(jobAt m j).stand==.asleep).map λ i=>(slK m i,i))).map (·.2):=by
 unfold sleepers;refine sW HT.lexLt (slK m) (putSleeper m) (λ j k=>decide ((jobAt m j).wake<(jobAt m k).wake\/((jobAt m j).wake=(jobAt m k).wake/\(jobAt m j).turn<(jobAt m k).turn))) (λ j=>rfl) (λ j k r=>?_) (λ j k=>?_) _
 .show(if(jobAt m j).wake<(jobAt m k).wake\/((jobAt m j).wake=(jobAt m k).wake/\(jobAt m j).turn<(jobAt m k).turn)then j::k::r else k::putSleeper m j r)=_;by_cases h:(jobAt m j).wake<(jobAt m k).wake\/((jobAt m j).wake=(jobAt m k).wake/\(jobAt m j).turn<(jobAt m k).turn)
  .rw[au h,au (bO h)]
  .rw[ao h,ao (by simpa using h)]
 .unfold slK;rw[Ai,kH];simp only[bc,lc,bq];omega
def rk(m:ax)(i:Nat):List Int:=gJ (de 0 0 m) (bZ i 0 (jobAt m i))
theorem CF(m:ax)(i:Nat)(x:Job):y8 (de 0 0 m) (bZ i 0 x)=((pressing m x:Nat):Int):=by
 unfold y8 pressing;show(if((m.age:Nat):Int)=0 then((x.urgency:Nat):Int)else(x.urgency:Int)+(x.waited:Int)/(m.age:Int))=_;by_cases h:m.age=0
 .rw[au h,au ah];simp
 .rw[ao h,ao ah];rw[aaj,aak]
theorem Q_(a b c d e f:Int):HT.lexLt [a,b,c] [d,e,f]=(decide (a<d)||(decide (a=d)&&(decide (b<e)||(decide (b=e)&&decide (c<f))))):=by
 show(if a=d then HT.lexLt [b,c] [e,f]else decide (a<d))=_;by_cases h:a=d
 .subst h;rw[au rfl,Ai];simp
 .rw[ao h];by_cases h3:a<d<;>simp[h,h3]
theorem IX{m:ax}(hp:m.policy≠0){i j:Nat}(hi:uW (jobAt m i).pass)(hj:uW (jobAt m j).pass):before m i j=HT.lexLt (rk m i) (rk m j):=by
 unfold before rk gJ;have e0:∀{k:Nat},((de 0 0 m).policy=(k:Int))=(m.policy=k):=λ{k}=>propext ⟨λ h=>by have:((m.policy:Nat):Int)=k:=h;omega,λ h=>by show((m.policy:Nat):Int)=k;omega⟩
 have n0:¬(de 0 0 m).policy=0:=by have:=@e0 0;intro h;exact hp (this▸h)
 dsimp only;rw[ao hp,ao n0,ao n0];by_cases h1:m.policy=1
 .have g1:(de 0 0 m).policy=1:=by show((m.policy:Nat):Int)=1;omega
  rw[au h1,au g1,au g1,Ai,CF,CF,kH];show _↔(decide (-((pressing m (jobAt m i):Nat):Int)< -((pressing m (jobAt m j):Nat):Int))||(decide (-((pressing m (jobAt m i):Nat):Int)=-((pressing m (jobAt m j):Nat):Int))&&decide (((jobAt m i).turn:Int)<((jobAt m j).turn:Int))))=true;simp only[bc,lc,bq,j5];omega
 .have g1:¬(de 0 0 m).policy=1:=by intro h;have:((m.policy:Nat):Int)=1:=h;omega
  rw[ao h1,ao g1,ao g1];by_cases h2:m.policy=2
  .have g2:(de 0 0 m).policy=2:=by show((m.policy:Nat):Int)=2;omega
   rw[au h2,au g2,au g2,Ai,sV hi hj,sV hj hi,kH];show _↔(decide (((fI (jobAt m i).pass:Nat):Int)<((fI (jobAt m j).pass:Nat):Int))||(decide (((fI (jobAt m i).pass:Nat):Int)=((fI (jobAt m j).pass:Nat):Int))&&decide (((jobAt m i).turn:Int)<((jobAt m j).turn:Int))))=true;simp only[bc,lc,bq,GA,MQ];omega
  .have g2:¬(de 0 0 m).policy=2:=by intro h;have:((m.policy:Nat):Int)=2:=h;omega
   rw[ao h2,ao g2,ao g2];by_cases h3:m.policy=3
   .have g3:(de 0 0 m).policy=3:=by show((m.policy:Nat):Int)=3;omega
    rw[au h3,au g3,au g3];unfold ZV sooner dueOf;show _=HT.lexLt (if(((jobAt m i).due:Nat):Int)=0 then [1,0,((i:Nat):Int)]else [0,((jobAt m i).come:Int)+((jobAt m i).due:Int),((i:Nat):Int)]) (if(((jobAt m j).due:Nat):Int)=0 then [1,0,((j:Nat):Int)]else [0,((jobAt m j).come:Int)+((jobAt m j).due:Int),((j:Nat):Int)]);by_cases d1:(jobAt m i).due=0
    .have d1':(((jobAt m i).due:Nat):Int)=0:=by omega
     by_cases d2:(jobAt m j).due=0
     .have V4:(((jobAt m j).due:Nat):Int)=0:=by omega
      rw[au d1,au d2,au d1',au V4,Q_];simp
     .have V4:¬(((jobAt m j).due:Nat):Int)=0:=by omega
      rw[au d1,ao d2,au d1',ao V4,Q_];simp
    .have d1':¬(((jobAt m i).due:Nat):Int)=0:=by omega
     by_cases d2:(jobAt m j).due=0
     .have V4:(((jobAt m j).due:Nat):Int)=0:=by omega
      rw[ao d1,au d2,ao d1',au V4,Q_];simp
     .have V4:¬(((jobAt m j).due:Nat):Int)=0:=by omega
      rw[ao d1,ao d2,ao d1',ao V4,Q_,kH];show(decide ((jobAt m i).come+(jobAt m i).due<(jobAt m j).come+(jobAt m j).due)||(!decide ((jobAt m j).come+(jobAt m j).due<(jobAt m i).come+(jobAt m i).due)&&decide (i<j)))=true↔_;simp only[bc,lc,bq,GA,MQ,aal,true_and,false_or];omega
   .have g3:¬(de 0 0 m).policy=3:=by intro h;have:((m.policy:Nat):Int)=3:=h;omega
    rw[ao h3,ao g3,ao g3];by_cases h4:m.policy=4
    .have g4:(de 0 0 m).policy=4:=by show((m.policy:Nat):Int)=4;omega
     rw[au h4,au g4,au g4,Ai,kH];show _↔(decide (((jobAt m i).left:Int)<((jobAt m j).left:Int))||(decide (((jobAt m i).left:Int)=((jobAt m j).left:Int))&&decide (((i:Nat):Int)<((j:Nat):Int))))=true;simp only[bc,lc,bq,j5];omega
    .have g4:¬(de 0 0 m).policy=4:=by intro h;have:((m.policy:Nat):Int)=4:=h;omega
     rw[ao h4,ao g4,ao g4,Ai,kH];show _↔(decide (((jobAt m i).level:Int)<((jobAt m j).level:Int))||(decide (((jobAt m i).level:Int)=((jobAt m j).level:Int))&&decide (((jobAt m i).turn:Int)<((jobAt m j).turn:Int))))=true;simp only[bc,lc,bq,j5];omega
theorem wP(m:ax):(readies m).Nodup:=y_.sublist Ha
def mV(m:ax)(i:Nat):List Int:=[1,((jobAt m i).turn:Int)]
theorem MR(m:ax)(i j:Nat):HT.lexLt (mV m i) (mV m j)=decide ((jobAt m i).turn<(jobAt m j).turn):=by
 unfold mV;rw[Ai,kH];simp only[bc,lc,bq,aal,true_and,false_or];omega
theorem Aj{m:ax}(h0:m.policy=0)(i:Nat):rk m i=[if m.current=some i then 0 else 1,((jobAt m i).turn:Int)]:=by
 unfold rk gJ;rw[au (show(de 0 0 m).policy=0 by show((m.policy:Nat):Int)=0;omega)];show [if Co m.current=L2.V.int (i:Int)then(0:Int)else 1,((jobAt m i).turn:Int)]=_;cases hc:m.current with
 |none=>
  rw[ao (show¬Co none=L2.V.int (i:Int) from λ z=>by cases z),ao aL]
 |some c=>
  by_cases h:c=i
  .subst h;rw[au (show Co (some c)=L2.V.int (c:Int) from rfl),au rfl]
  .rw[ao (show¬Co (some c)=L2.V.int (i:Int) from λ z=>h (by injection z with z';have:((c:Nat):Int)=i:=z';omega)),ao (by simpa using h)]
theorem EV{l:List Nat}{c:Nat}(nd:l.Nodup)(h:c∈l):l.filter (λ i=>decide (i=c))=[c]:=by
 induction l with
 |nil=>cases h
 |cons a r ih=>
  obtain⟨h1,h2⟩:=mi.mp nd;rw[gZ];by_cases e:a=c
  .subst e;rw[au aL];have:r.filter (λ i=>decide (i=a))=[]:=by
    rw[Lq];intro x hx hd;exact h1 ((G8 hd)▸hx)
   rw[this]
  .rw[ao (by simpa using e)];rcases eB.mp h with z|z
   .exact absurd z.symm e
   .exact ih h2 z
theorem wQ(m:ax)(hf:∀i,uW (jobAt m i).pass):order m=(MS.eI HT.lexLt ((readies m).map λ i=>(rk m i,i))).map (·.2):=by
 have h1:∀j k r,putReady m j (k::r)=if before m j k=true then j::k::r else k::putReady m j r:=λ _ _ _=>rfl
 by_cases h0:m.policy=0
 .have bt:∀i j,before m i j=HT.lexLt (mV m i) (mV m j):=λ i j=>by
   rw[MR];unfold before;dsimp only;rw[au h0]
  have hl:=sW HT.lexLt (mV m) (putReady m) (before m) (λ _=>rfl) h1 bt (readies m);obtain⟨l,yL⟩:=bS ((readies m).foldl (λ l j=>putReady m j l) []);have ord:order m=match m.current with|some c=>if l.contains c=true then c::l.filter (λ j=>j !=c)else l|none=>l:=by
   unfold order;dsimp only;rw[au h0,<-yL];cases m.current<;>rfl
  rw[<-yL]at hl;rw[ord];have noC:(∀i∈readies m,m.current≠some i) ->l=(MS.eI HT.lexLt ((readies m).map λ i=>(rk m i,i))).map (·.2):=λ h=>by
   rw[hl];congr 2;refine gu λ i hi=>?_
   rw[Aj h0,ao (h i hi)];rfl
  cases hc:m.current with
  |none=>exact noC λ i _=>by rw[hc];simp
  |some c=>
   dsimp only;obtain⟨L,hL⟩:=bS (MS.eI HT.lexLt ((readies m).map λ i=>(mV m i,i)));rw[<-hL]at hl;have pm:L.Perm ((readies m).map λ i=>(mV m i,i)):=by rw[hL];exact lT _ _
   have pl:l.Perm (readies m):=by
    rw[hl];have:=pm.map mK;rw[bB]at this;rw[show(mK∘λ i=>(mV m i,i))=(id:Nat ->Nat) from rfl,uq]at this;exact this
   by_cases i9:c∈readies m
   .have zX:l.contains c=true:=by simpa using pl.mem_iff.mpr i9
    rw[au zX];have other:∀i,i≠c ->rk m i=mV m i:=λ i hi=>by
     rw[Aj h0,hc,ao (by simpa using λ z=>hi z.symm)];rfl
    have own:rk m c=[0,((jobAt m c).turn:Int)]:=by rw[Aj h0,hc,au rfl]
    have hLk:∀z∈L,z.1=mV m z.2:=λ z hz=>by
     obtain⟨i,_,e⟩:=cY.mp (pm.mem_iff.mp hz);rw[<-e]
    have key:((c::l.filter λ j=>j !=c).map λ i=>(rk m i,i))=MS.eI HT.lexLt ((readies m).map λ i=>(rk m i,i)):=by
     have tl:(l.filter λ j=>j !=c).map (λ i=>(rk m i,i))=L.filter λ z=>z.2 !=c:=by
      rw[hl,mw,bB];have:∀z∈L.filter ((λ j=>j !=c)∘mK),((λ i=>(rk m i,i))∘mK) z=z:=λ z hz=>by
       obtain⟨z1,z2⟩:=ii.mp hz;have ne:z.2≠c:=by simpa using z2
       show(rk m z.2,z.2)=z;rw[other z.2 ne,<-hLk z z1]
      exact(gu this).trans (uq _)
     rw[dW,tl];refine MS.BS L2.sO ?_ λ k=>?_
     .refine pL.mpr ⟨λ q hq=>?_,?_⟩
      .obtain⟨q1,q2⟩:=ii.mp hq;show HT.lexLt q.1 (rk m c)=false;rw[hLk q q1,own];unfold mV;rw[Ai];simp
      .have sL:MS.jI HT.lexLt L:=by rw[hL];exact MS.qV L2.sO _
       exact adQ Ha sL
     .have fL:L.filter (MS.same HT.lexLt k)=((readies m).map λ i=>(mV m i,i)).filter (MS.same HT.lexLt k):=by rw[hL];exact MS.qW L2.sO _ k
      have sm:∀z:List Int×Nat,MS.same HT.lexLt k z=decide (z.1=k):=λ z=>by
       by_cases e:z.1=k
       .rw[bO e];exact(MS.gY L2.sO).mpr e
       .rw[gh e];cases q:MS.same HT.lexLt k z with
        |false=>rfl
        |true=>exact absurd ((MS.gY L2.sO).mp q) e
      rw[gZ];by_cases hk:rk m c=k
      .rw[au (by rw[sm];exact bO hk)];have IY:(L.filter λ z=>z.2 !=c).filter (MS.same HT.lexLt k)=[]:=by
        rw[Lq];intro z hz hs;obtain⟨z1,_⟩:=ii.mp hz;rw[sm]at hs;have:=G8 hs;rw[hLk z z1,<-hk,own]at this;unfold mV at this
        injection this with t1 _
        exact absurd t1 zq_dc
       rw[IY,mw];have:(readies m).filter (MS.same HT.lexLt k∘λ i=>(rk m i,i))=(readies m).filter λ i=>decide (i=c):=by
        refine B6 λ i _=>?_
        show MS.same HT.lexLt k (rk m i,i)=decide (i=c);rw[sm];by_cases e:i=c
        .subst e;rw[bO hk];simp
        .rw[gh e,gh];show¬rk m i=k;rw[other i e,<-hk,own];intro z;unfold mV at z
         injection z with t1 _
         exact absurd t1 zq_dc
       rw[this,EV (wP m) i9];rfl
      .rw[ao (by rw[sm];simpa using hk)];rw[TU,show(λ z:List Int×Nat=>MS.same HT.lexLt k z&&(z.2 !=c))=(λ z=>(z.2 !=c)&&MS.same HT.lexLt k z) from funext λ z=>aam _ _,<-TU,fL,mw,mw,mw,TU];have e1:(readies m).filter (λ a=>((λ z:List Int×Nat=>z.2 !=c)∘λ i=>(mV m i,i)) a&&(MS.same HT.lexLt k∘λ i=>(mV m i,i)) a)=(readies m).filter (MS.same HT.lexLt k∘λ i=>(rk m i,i)):=by
        refine B6 λ i _=>?_
        show((i !=c)&&MS.same HT.lexLt k (mV m i,i))=MS.same HT.lexLt k (rk m i,i);rw[sm,sm];by_cases e:i=c
        .subst e;rw[gh hk];simp
        .rw[other i e];simp[e]
       rw[e1];refine gu λ i hi=>?_
       have jD:i≠c:=λ z=>by
        have:=(ii.mp hi).2;have h2:MS.same HT.lexLt k (rk m i,i)=true:=this;rw[sm]at h2;exact hk (z▸G8 h2)
       rw[other i jD]
    have:=congrArg (MB mK) key;rw[bB]at this;rw[show(mK∘λ i=>(rk m i,i))=(id:Nat ->Nat) from rfl,uq]at this;exact this
   .have zX:¬l.contains c=true:=by
     intro z;exact i9 (pl.mem_iff.mp (by simpa using z))
    rw[ao zX];exact noC λ i hi z=>by
     rw[hc]at z;cases z;exact i9 hi
 .have ord:order m=(readies m).foldl (λ l j=>putReady m j l) []:=by
   unfold order;dsimp only;rw[ao h0]
  rw[ord];exact sW HT.lexLt (rk m) (putReady m) (before m) (λ _=>rfl) h1 (λ i j=>IX h0 (hf i) (hf j)) (readies m)
theorem zc(m:ax)(hf:∀i,uW (jobAt m i).pass):chosen m=match(readies m).map λ i=>(rk m i,i)with|[]=>none|b::r=>some (L2.pick HT.lexLt b r).2:=by
 unfold chosen;rw[wQ m hf,List.head?_map];cases(readies m).map λ i=>(rk m i,i)with
 |nil=>rfl
 |cons b r=>
  rw[EU];rfl
structure rE(ps:List Part):Prop where
 first:∃n:Nat,1<=n/\ps[0]?=some (uv n)
 nap:∀i n:Nat,ps[i]?=some (MT n) ->1<=n/\∃k:Nat,ps[i+1]?=some (uv k)
 work:∀i n:Nat,ps[i]?=some (uv n) ->1<=n
structure e7(x:Job):Prop where
 DU:1<=x.shares
 uw:x.shares<=100/\x.urgency<=9
 pass:uW x.pass
 parts:rE x.parts
 asleep:x.stand=.asleep ->∃n,x.parts[x.place]?=some (.nap n)
 ready:x.stand=.ready ->1<=x.left
 coming:x.stand=.coming ->x.place=0
 level:x.level<=3
structure jz(m:ax):Prop where
 job:∀i,i<m.jobs.length ->e7 (jobAt m i)
 floor:uW m.floor
 QO:m.policy≠0 ->m.current=none
 len:m.jobs.length<=16
 age:m.age<=20
 who:m.who.length=m.now
def eF(A:MA)(i:Nat)(x:Job):PJ:=⟨A.js.getD i 0,bZ i (A.ps.getD i 0) x,x.parts.map dO⟩
def bw(A:MA)(m:ax):PM:=⟨de A.la A.ra m,m.jobs.mapIdx (eF A),m.who.map whoNumber⟩
variable{A:MA}{m:ax}
theorem bM:(bw A m).js.length=m.jobs.length:=MU
theorem fg{i:Nat}(h:i<m.jobs.length):at_ (bw A m) i=eF A i (jobAt m i):=by
 refine MC ?_;show(m.jobs.mapIdx (eF A))[i]?=_;rw[ux,ay h];unfold jobAt;rw[aG,ay h];rfl
theorem vA(l:List Job)(i:Nat)(x:Job):(l.mapIdx (eF A)).set i (eF A i x)=(l.set i x).mapIdx (eF A):=by
 refine Ct λ k=>?_
 rw[ux];by_cases h:i=k
 .subst h;by_cases hl:i<l.length
  .rw[qF (by simpa using hl),qF hl];rfl
  .rw[v5 i6,v5 i6];rfl
 .rw[o9 h,o9 h,ux]
theorem IZ{i k:Nat}{x:Job}(h:i<m.jobs.length):jobAt (setJob m i x) k=if k=i then x else jobAt m k:=by
 unfold jobAt setJob;show(m.jobs.set i x).getD k noJob=_;rw[aG];by_cases e:k=i
 .subst e;rw[au rfl,qF h];rfl
 .rw[ao e,o9 (λ z=>e z.symm),<-aG]
theorem lV(W:jz m)(i:Nat):uW (jobAt m i).pass:=by
 by_cases h:i<m.jobs.length
 .exact(W.job i h).pass
 .unfold jobAt;rw[aG,v5 ah];exact Q9
theorem jz.set{i:Nat}{x:Job}(W:jz m)(hx:e7 x):jz (setJob m i x):=by
 refine⟨λ k hk=>?_,W.floor,W.QO,by show(m.jobs.set i x).length<=16;rw[i8];exact W.len,W.age,W.who⟩;have gj:k<m.jobs.length:=by
  have:k<(m.jobs.set i x).length:=hk;rwa[i8]at this
 by_cases hi:i<m.jobs.length
 .rw[IZ hi];split
  .exact hx
  .exact W.job k gj
 .have:setJob m i x=m:=by
   unfold setJob;rw[MJ ah]
  rw[this];exact W.job k gj
theorem jz.turns(W:jz m)(t:Nat):jz {m with turns:=t}:=⟨W.job,W.floor,W.QO,W.len,W.age,W.who⟩
theorem rE.ne{ps:List Part}(h:rE ps):ps≠[]:=by
 obtain⟨n,_,e⟩:=h.first;intro z;rw[z]at e;cases e
theorem Ak(W:jz m):kO (bw A m):=by
 refine⟨⟨?_,?_,?_,?_⟩,λ i q hq=>?_⟩
 .show(0:Int)<=(m.age:Int);omega
 .show(m.age:Int)<1073741824;have:=W.age;omega
 .show Co m.current=.bu\/∃i,Co m.current=.int i;cases m.current with
  |none=>exact .inl rfl
  |some c=>exact .inr ⟨c,rfl⟩
 .show(0:Int)<=(m.boost:Int);omega
 .have hl:i<m.jobs.length:=by
   obtain⟨h,_⟩:=gM.mp hq;rwa[bM]at h
  have e:q=eF A i (jobAt m i):=by rw[<-fg hl];exact(MC hq).symm
  have J:=W.job i hl;rw[e];refine⟨rfl,?_,?_,?_,?_,?_,?_,λ h=>?_,λ h=>?_⟩
  .show(0:Int)<=((jobAt m i).place:Int);omega
  .show(jobAt m i).parts.map dO≠[];intro z;exact J.parts.ne (List.map_eq_nil_iff.mp z)
  .show(0:Int)<((jobAt m i).shares:Int);have:=J.DU;omega
  .show((jobAt m i).shares:Int)<1073741824;have:=J.uw.1;omega
  .show(0:Int)<=((jobAt m i).level:Int);omega
  .show((jobAt m i).level:Int)<=3;have:=J.level;omega
  .have hs:(jobAt m i).stand=.asleep:=by
    have h':((standNumber (jobAt m i).stand:Nat):Int)=2:=h
    revert h'
    cases(jobAt m i).stand<;>intro h'<;>first|rfl|exact absurd h' zq_dc
   obtain⟨n,hn⟩:=J.asleep hs;obtain⟨_,k,hk⟩:=J.parts.nap _ n hn;obtain⟨dC,_⟩:=gM.mp hk;show((jobAt m i).place:Int)+1<(((jobAt m i).parts.map dO).length:Nat);rw[ak];omega
  .have hs:(jobAt m i).stand=.coming:=by
    have h':((standNumber (jobAt m i).stand:Nat):Int)=0:=h
    revert h'
    cases(jobAt m i).stand<;>intro h'<;>first|rfl|exact absurd h' zq_dc
   have h0:=J.coming hs;obtain⟨n,_,hn⟩:=J.parts.first;obtain⟨dC,_⟩:=gM.mp hn;show((jobAt m i).place:Int)<(((jobAt m i).parts.map dO).length:Nat);rw[ak,h0];omega
theorem ir(s:Stand):(((standNumber s:Nat):Int)=2↔s=.asleep)/\(((standNumber s:Nat):Int)=1↔s=.ready)/\(((standNumber s:Nat):Int)=0↔s=.coming):=by
 cases s<;>decide
theorem Al:iq (bw A m)=sleepers m:=by
 rw[uu];unfold iq;rw[bM];congr 2;have e1:(bf m.jobs.length).filter (λ i=>decide ((at_ (bw A m) i).j.aF=2))=(bf m.jobs.length).filter λ j=>(jobAt m j).stand==.asleep:=by
  refine B6 λ i hi=>?_
  rw[fg (gB.mp hi)];show decide (((standNumber (jobAt m i).stand:Nat):Int)=2)=_;rw[kH,bc,(ir _).1];exact j5.symm
 rw[e1];refine gu λ i hi=>?_
 rw[fg (gB.mp (ii.mp hi).1)];rfl
theorem Am:jq (bw A m)=readies m:=by
 unfold jq readies;rw[bM];refine B6 λ i hi=>?_
 rw[fg (gB.mp hi)];show decide (((standNumber (jobAt m i).stand:Nat):Int)=1)=((jobAt m i).stand==.ready);rw[kH,bc,(ir _).2.1];exact j5.symm
theorem I_(W:jz m):oo (bw A m)=chosen m:=by
 rw[zc m (lV W)];unfold oo;rw[Am];have e:((readies m).map λ i=>(gJ (bw A m).m (at_ (bw A m) i).j,i))=(readies m).map λ i=>(rk m i,i):=by
  refine gu λ i hi=>?_
  rw[fg (gB.mp (ii.mp hi).1)];rfl
 rw[e]<;>cases(readies m).map λ i=>(rk m i,i)<;>rfl
theorem CG{i:Nat}{x:Job}{k:Nat}(hx:uW x.pass)(hf:uW m.floor)(hp:x.parts[x.place]?=some (.work k)):qp (bw A m) i (eF A i x)=bw A (made m i x):=by
 have hl:lasting x=k:=by
  unfold lasting;rw[hp]
 have hv:(x.parts.map dO).getD ((x.place:Nat):Int).toNat 0=((lasting x:Nat):Int):=by
  rw[k9,aG,aT,hp,hl];rfl
 have hg:=(lU hx hf).2;have hj:pX (de A.la A.ra m) (bZ i (A.ps.getD i 0) x) ((x.parts.map dO).getD ((x.place:Nat):Int).toNat 0)=bZ i (A.ps.getD i 0) {x with stand:=.ready,left:=lasting x,waited:=0,used:=0,turn:=m.turns,pass:=greater x.pass m.floor}:=by
  rw[hv];unfold pX;show({bZ i (A.ps.getD i 0) x with aF:=1,left:=((lasting x:Nat):Int),waited:=0,used:=0,turn:=((m.turns:Nat):Int),cb:=mx (fI x.pass) (fI m.floor)}:JV)=_;rw[<-hg];rfl
 unfold qp made;show PM.mk (iN (de A.la A.ra m)) ((m.jobs.mapIdx (eF A)).set i ⟨A.js.getD i 0,pX (de A.la A.ra m) (bZ i (A.ps.getD i 0) x) ((x.parts.map dO).getD ((x.place:Nat):Int).toNat 0),x.parts.map dO⟩) (m.who.map whoNumber)=_;rw[hj];have:=vA (A:=A) m.jobs i {x with stand:=.ready,left:=lasting x,waited:=0,used:=0,turn:=m.turns,pass:=greater x.pass m.floor};unfold bw;show PM.mk _ ((m.jobs.mapIdx (eF A)).set i (eF A i {x with stand:=.ready,left:=lasting x,waited:=0,used:=0,turn:=m.turns,pass:=greater x.pass m.floor})) _=_;rw[this];rfl
theorem Ra{i:Nat}{x:Job}{k:Nat}(W:jz m)(hx:e7 x)(hp:x.parts[x.place]?=some (.work k)):e7 {x with stand:=.ready,left:=lasting x,waited:=0,used:=0,turn:=m.turns,pass:=greater x.pass m.floor}:=by
 refine⟨hx.DU,hx.uw,(lU hx.pass W.floor).1,hx.parts,(λ z=>by cases z),λ _=>?_,(λ z=>by cases z),hx.level⟩;show 1<=lasting x;unfold lasting;rw[hp];exact hx.parts.work _ _ hp
theorem ly(f:PM ->Nat ->PM)(g:ax ->Nat ->ax)(c:ax ->Nat ->Bool)(Rb:ax ->Nat ->Prop)(aZ:ax ->Prop)
  (hs:∀m i,aZ m ->Rb m i ->f (bw A m) i=bw A (if c m i=true then g m i else m)) (hi:∀m i,aZ m ->Rb m i ->c m i=true ->aZ (g m i))
  (hp:∀m i k,k≠i ->Rb m i ->Rb m k ->Rb (g m i) k) (hc:∀m i k,k≠i ->Rb m i ->c (g m i) k=c m k):
  ∀(l:List Nat)(m:ax),l.Nodup ->aZ m ->(∀i∈l,Rb m i) ->l.foldl f (bw A m)=bw A ((l.filter (c m)).foldl g m)/\aZ ((l.filter (c m)).foldl g m)
 |[],m,_,I,_=>⟨rfl,I⟩
 |i::l,m,nd,I,pre=>by
  obtain⟨n1,n2⟩:=mi.mp nd;have pi:=pre i fM;rw[qO,hs m i I pi,gZ];by_cases h:c m i=true
  .rw[au h,au h,qO];have ne:∀k∈l,k≠i:=λ k hk z=>n1 (z▸hk)
   have:=ly f g c Rb aZ hs hi hp hc l (g m i) n2 (hi m i I pi h) λ k hk=>hp m i k (ne k hk) pi (pre k (ff _ hk))
   rw[B6 (q:=c m) λ k hk=>hc m i k (ne k hk) pi]at this;exact this
  .rw[ao h,ao h];exact ly f g c Rb aZ hs hi hp hc l m n2 I λ k hk=>pre k (ff _ hk)
end JS
namespace JS
open Vbtkad
variable{A:MA}{m:ax}
theorem CH(m:ax)(i:Nat)(x:Job):(made m i x).jobs.length=m.jobs.length:=by
 show(m.jobs.set i _).length=_;exact i8 ..
theorem An{i k:Nat}{x:Job}(h:k≠i):jobAt (made m i x) k=jobAt m k:=by
 show(m.jobs.set i _).getD k noJob=m.jobs.getD k noJob;rw[aG,o9 (λ z=>h z.symm),<-aG]
theorem e7.MW{x:Job}(h:e7 x)(hs:x.stand=.asleep):∃k:Nat,x.parts[x.place+1]?=some (uv k):=by
 obtain⟨n,hn⟩:=h.asleep hs;exact(h.parts.nap _ n hn).2
theorem CI(W:jz m):jT (bw A m)=bw A (((sleepers m).filter λ j=>decide ((jobAt m j).wake<=m.now)).foldl woken m)/\jz (((sleepers m).filter λ j=>decide ((jobAt m j).wake<=m.now)).foldl woken m):=by
 unfold jT;have nd:=Ad (bw A m);rw[Al]at nd⊢;refine ly (A:=A) eK woken (λ m j=>decide ((jobAt m j).wake<=m.now)) (λ m i=>i<m.jobs.length/\(jobAt m i).stand=.asleep) jz ?_ ?_ ?_ ?_ (sleepers m) m nd.1 W λ i hi=>?_
 .intro m i W ⟨hl,hs⟩;unfold eK;rw[fg hl];obtain⟨k,hk⟩:=(W.job i hl).MW hs;by_cases h:(jobAt m i).wake<=m.now
  .rw[au (show(eF A i (jobAt m i)).j.eC<=(bw A m).m.now by show((jobAt m i).wake:Int)<=(m.now:Int);omega),au (bO h)];exact CG (A:=A) (x:={jobAt m i with place:=(jobAt m i).place+1}) (W.job i hl).pass W.floor hk
  .rw[ao (show¬(eF A i (jobAt m i)).j.eC<=(bw A m).m.now by show¬((jobAt m i).wake:Int)<=(m.now:Int);omega),ao (by simpa using h)]
 .intro m i W ⟨hl,hs⟩ _;obtain⟨k,hk⟩:=(W.job i hl).MW hs;have J:=W.job i hl;have J':e7 {jobAt m i with stand:=.ready,left:=lasting {jobAt m i with place:=(jobAt m i).place+1},waited:=0,used:=0,turn:=m.turns,pass:=greater (jobAt m i).pass m.floor,place:=(jobAt m i).place+1}:=by
   refine⟨J.DU,J.uw,(lU J.pass W.floor).1,J.parts,(λ z=>by cases z),λ _=>?_,(λ z=>by cases z),J.level⟩;show 1<=lasting {jobAt m i with place:=(jobAt m i).place+1};unfold lasting;rw[show({jobAt m i with place:=(jobAt m i).place+1}:Job).parts[({jobAt m i with place:=(jobAt m i).place+1}:Job).place]?=some (uv k) from hk];exact J.parts.work _ _ hk
  exact(W.set (i:=i) J').turns _
 .intro m i k h _ ⟨h1,h2⟩;unfold woken;exact⟨by rw[CH];exact h1,by rw[An h];exact h2⟩
 .intro m i k h _;unfold woken;rw[An h];rfl
 .obtain⟨h1,h2⟩:=nd.2 i hi;rw[bM]at h1;rw[fg h1]at h2;exact⟨h1,(ir _).1.mp h2⟩
theorem CJ(W:jz m):lx (bw A m)=bw A (((bf m.jobs.length).filter λ j=>(jobAt m j).stand==.coming&&decide ((jobAt m j).come<=m.now)).foldl (λ b j=>made b j (jobAt b j)) m)/\jz (((bf m.jobs.length).filter λ j=>(jobAt m j).stand==.coming&&decide ((jobAt m j).come<=m.now)).foldl (λ b j=>made b j (jobAt b j)) m):=by
 unfold lx;rw[bM];refine ly (A:=A) fV (λ b j=>made b j (jobAt b j)) (λ m j=>(jobAt m j).stand==.coming&&decide ((jobAt m j).come<=m.now)) (λ m i=>i<m.jobs.length) jz ?_ ?_ ?_ ?_ (bf m.jobs.length) m y_ W λ i hi=>gB.mp hi
 .intro m i W hl;unfold fV;rw[fg hl];have J:=W.job i hl;by_cases h:(jobAt m i).stand=.coming/\(jobAt m i).come<=m.now
  .rw[au (show(eF A i (jobAt m i)).j.aF=0/\(eF A i (jobAt m i)).j.fR<=(bw A m).m.now from⟨(ir _).2.2.mpr h.1,by show((jobAt m i).come:Int)<=(m.now:Int);omega⟩),au (by rw[h.1];simpa using h.2)];obtain⟨n,_,hn⟩:=J.parts.first;exact CG (A:=A) J.pass W.floor (by rw[J.coming h.1];exact hn)
  .rw[ao (λ z=>h ⟨(ir _).2.2.mp z.1,by have:((jobAt m i).come:Int)<=(m.now:Int):=z.2;omega⟩),ao (by simpa using h)]
 .intro m i W hl hc;have h:(jobAt m i).stand=.coming:=by
   have:=(bq _ _▸hc:_/\_).1;exact j5.mp this
  have J:=W.job i hl;obtain⟨n,_,hn⟩:=J.parts.first;exact(W.set (i:=i) (Ra (i:=i) W J (by rw[J.coming h];exact hn))).turns _
 .intro m i k h _ h1;show k<(made m i (jobAt m i)).jobs.length;rw[CH];exact h1
 .intro m i k h _;show((jobAt (made m i (jobAt m i)) k).stand==_&&decide ((jobAt (made m i (jobAt m i)) k).come<=m.now))=_;rw[An h]
theorem CK(F:Job ->Job):∀(l:List Nat)(m:ax),l.Nodup ->l.foldl (λ b j=>setJob b j (F (jobAt b j))) m={m with jobs:=m.jobs.mapIdx λ k x=>if k∈l then F x else x}
 |[],m,_=>by
  show m={m with jobs:=m.jobs.mapIdx λ k x=>if k∈[]then F x else x};have:(m.jobs.mapIdx λ k x=>if k∈([]:List Nat)then F x else x)=m.jobs:=by
   refine Ct λ k=>?_
   rw[ux];cases m.jobs[k]?<;>simp
  rw[this]
 |i::l,m,nd=>by
  obtain⟨n1,n2⟩:=mi.mp nd;rw[qO,CK F l _ n2];show Hi ..=Hi ..;congr 1;refine Ct λ k=>?_
  show((m.jobs.set i (F (jobAt m i))).mapIdx _)[k]?=_;rw[ux,ux];by_cases e:i=k
  .subst e;by_cases hl:i<m.jobs.length
   .rw[qF hl,ay hl];have:jobAt m i=m.jobs[i]:=by
     unfold jobAt;rw[aG,ay hl];rfl
    simp[n1,this]
   .rw[v5 i6,v5 ah];rfl
  .rw[o9 e];have jD:¬k=i:=λ z=>e z.symm
   simp only[eB,jD,false_or]
theorem Ja{F:Nat ->Job ->Job}{k:Nat}(h:k<m.jobs.length):jobAt {m with jobs:=m.jobs.mapIdx F} k=F k (jobAt m k):=by
 unfold jobAt;show(m.jobs.mapIdx F).getD k noJob=_;rw[aG,aG,ux,ay h];rfl
theorem jz.idx{F:Nat ->Job ->Job}(W:jz m)(h:∀k x,e7 x ->e7 (F k x)):jz {m with jobs:=m.jobs.mapIdx F}:=by
 refine⟨λ k hk=>?_,W.floor,W.QO,by show(m.jobs.mapIdx F).length<=16;rw[MU];exact W.len,W.age,W.who⟩;have gj:k<m.jobs.length:=by
  have:k<(m.jobs.mapIdx F).length:=hk;rwa[MU]at this
 rw[Ja gj];exact h k _ (W.job k gj)
theorem zd(G:JV ->JV)(F:Job ->Job)(c:Nat ->Bool)(f:PM ->Nat ->PM)(hf:∀m i,i<m.jobs.length ->f (bw A m) i=if c i=true then{bw A m with js:=(bw A m).js.set i {at_ (bw A m) i with j:=G (at_ (bw A m) i).j}}else bw A m)
  (hG:∀i pa x,G (bZ i pa x)=bZ i pa (F x)) (hFp:∀x,(F x).parts=x.parts) (l:List Nat) (nd:l.Nodup) (hl:∀i∈l,i<m.jobs.length):
  l.foldl f (bw A m)=bw A {m with jobs:=m.jobs.mapIdx λ k x=>if k∈l.filter c then F x else x}:=by
 have:=(ly (A:=A) f (λ b j=>setJob b j (F (jobAt b j))) (λ _ j=>c j) (λ m i=>i<m.jobs.length) (λ _=>True) (λ m i _ hi=>?_) (λ _ _ _ _ _=>trivial) (λ m i k _ _ h=>?_) (λ _ _ _ _ _=>rfl) l m nd trivial hl).1
 .rw[this,CK F _ m (nd.sublist Ha)]
 .rw[hf m i hi];by_cases h:c i=true
  .rw[au h,au h,fg hi];have e:({eF A i (jobAt m i)with j:=G (eF A i (jobAt m i)).j}:PJ)=eF A i (F (jobAt m i)):=by
    show PJ.mk _ (G (bZ i _ (jobAt m i))) _=PJ.mk _ _ _;rw[hG,hFp];rfl
   rw[e];show PM.mk _ ((m.jobs.mapIdx (eF A)).set i _) _=_;rw[vA];rfl
  .rw[ao h,ao h]
 .show k<(m.jobs.set i _).length;rw[i8];exact h
theorem CL(W:jz m):jU (bw A m)=bw A (lifted m)/\jz (lifted m):=by
 unfold jU lifted;by_cases h:m.policy=5/\m.boost≠0/\m.now≠0/\m.now % m.boost=0
 .have h':(bw A m).m.policy=5/\(bw A m).m.boost≠0/\(bw A m).m.now≠0/\(bw A m).m.now % (bw A m).m.boost=0:=by
   show(m.policy:Int)=5/\(m.boost:Int)≠0/\(m.now:Int)≠0/\(m.now:Int) % (m.boost:Int)=0;obtain⟨h1,h2,h3,h4⟩:=h;refine⟨ah,ah,ah,?_⟩;rw[<-TV,h4];rfl
  rw[au h,au h',bM];have e:=zd (A:=A) (m:=m) za (λ x=>{x with level:=0,used:=0}) (λ _=>true) iO (λ m i _=>by rw[au rfl];rfl) (λ _ _ _=>rfl) (λ _=>rfl) (bf m.jobs.length) y_ (λ i hi=>gB.mp hi);have e2:(m.jobs.mapIdx λ k x=>if k∈(bf m.jobs.length).filter (λ _=>true)then({x with level:=0,used:=0}:Job)else x)=m.jobs.map λ x=>{x with level:=0,used:=0}:=by
   refine Ct λ k=>?_
   rw[ux,aT];by_cases hk:k<m.jobs.length
   .rw[ay hk];simp[hk]
   .rw[v5 ah];rfl
  rw[e2]at e;refine⟨e,?_⟩;rw[<-e2];refine W.idx λ k x J=>?_
  split
  .exact⟨J.DU,J.uw,J.pass,J.parts,J.asleep,J.ready,J.coming,ia _⟩
  .exact J
 .rw[ao h,ao]
  .exact⟨rfl,W⟩
  .show¬((m.policy:Int)=5/\(m.boost:Int)≠0/\(m.now:Int)≠0/\(m.now:Int) % (m.boost:Int)=0);intro⟨h1,h2,h3,h4⟩;refine h ⟨ah,ah,ah,?_⟩;rw[<-TV]at h4;omega
def Hj(x:Job):Job:={x with waited:=x.waited+1,longest:=max x.longest (x.waited+1)}
theorem MX(i:Nat)(pa:MY)(x:Job):pY (bZ i pa x)=bZ i pa (Hj x):=by
 unfold pY;show({bZ i pa x with waited:=((x.waited:Nat):Int)+1,dF:=mx (x.longest:Int) ((x.waited:Int)+1)}:JV)=_;have:mx (x.longest:Int) ((x.waited:Int)+1)=((max x.longest (x.waited+1):Nat):Int):=by
  unfold mx;split<;>omega
 rw[this];rfl
def eQ(m:ax)(j:Nat):List Job:=(bf m.jobs.length).zip m.jobs|>.map λ e=>if e.1≠j/\isReady e.2=true then{e.2 with waited:=e.2.waited+1,longest:=max e.2.longest (e.2.waited+1)}else e.2
theorem lW(m:ax)(j:Nat):eQ m j=m.jobs.mapIdx λ k x=>if k∈(readies m).filter (λ i=>decide (i≠j))then Hj x else x:=by
 unfold eQ;refine kn aL λ k h1 h2=>?_
 have hk:k<m.jobs.length:=by simpa using h2
 have e:jobAt m k=m.jobs[k]:=by
  unfold jobAt;rw[aG,ay hk];rfl
 have:(k∈(readies m).filter λ i=>decide (i≠j))↔(k≠j/\isReady m.jobs[k]=true):=by
  unfold readies;rw[ii,ii,gB,e];simp[hk,and_comm]
 rw[fW,CM,aan,mM];simp only[this];rfl
theorem MZ(j:Nat):mL ((j:Nat):Int) (bw A m)=bw A {m with jobs:=eQ m j}:=by
 unfold mL;rw[Am,lW];refine zd (A:=A) (m:=m) pY Hj (λ i=>decide (i≠j)) (eZ (j:Int)) (λ m i hi=>?_) MX (λ _=>rfl) (readies m) (wP m) λ i hi=>gB.mp (ii.mp hi).1
 unfold eZ;have:(¬(at_ (bw A m) i).j.bh=((j:Nat):Int))=(decide (i≠j)=true):=by
  rw[fg hi];show(¬((i:Nat):Int)=((j:Nat):Int))=_;simp;omega
 simp only[this]
end JS
namespace JS
open Vbtkad
variable{A:MA}{m:ax}
def EW(x:Job):Job:={x with left:=x.left -1,ran:=x.ran+1,waited:=0,used:=x.used+1,pass:=plus x.pass (frac 1 x.shares)}
theorem CN{x:Job}(J:e7 x):uW (EW x).pass/\((fI (EW x).pass:Nat):Int)=(fI x.pass:Int)+69720375229712477164533808935312303556800/(x.shares:Int):=by
 obtain⟨s1,s2⟩:=MM J.DU J.uw.1;obtain⟨p1,p2⟩:=Q8 J.pass s1;refine⟨p1,?_⟩;show((fI (plus x.pass (frac 1 x.shares)):Nat):Int)=_;rw[p2,s2,aaj,aak];rfl
theorem Rc{x:Job}(J:e7 x)(h:1<=x.left)(i:Nat)(pa:MY):wH (bZ i pa x)=bZ i pa (EW x):=by
 have e1:((x.left:Nat):Int) -1=((x.left -1:Nat):Int):=by omega
 have e2:=(CN J).2;unfold wH;show({bZ i pa x with left:=((x.left:Nat):Int) -1,ran:=((x.ran:Nat):Int)+1,waited:=0,used:=((x.used:Nat):Int)+1,cb:=(fI x.pass:Int)+69720375229712477164533808935312303556800/(x.shares:Int)}:JV)=_;rw[e1,<-e2];rfl
theorem ze{ps:List Part}{i:Nat}{p:Part}(h:ps[i]?=some p):(ps.map dO).getD i 0=dO p:=by
 rw[aG,aT,h];rfl
theorem Jb(M:ax)(j:Nat)(la ra pa:MY){y:Job}(JY:∀l,1<=l ->e7 {y with left:=l})(hs:y.stand=.ready):
  ∃z t,movedOn M j y={setJob M j z with turns:=t}/\g7 (de la ra M) (bZ j pa y) (y.parts.map dO)=(de la ra {M with turns:=t},bZ j pa z)/\z.parts=y.parts/\e7 z:=by
 have J1:=JY 1 (ci 1);have PW:rE y.parts:=J1.parts;unfold movedOn g7;dsimp only;have eL:(((y.parts.map dO).length:Nat):Int)=(y.parts.length:Int):=by rw[ak]
 have ep:(bZ j pa y).bX=((y.place:Nat):Int):=rfl;by_cases h1:y.place+1<y.parts.length
 .rw[au h1,au (show(bZ j pa y).bX+1<(((y.parts.map dO).length:Nat):Int) by rw[eL,ep];omega)];have en:((bZ j pa y).bX+1).toNat=y.place+1:=by rw[ep];omega
  rw[en];cases hp:y.parts[y.place+1]?with
  |none=>
   rw[ay h1]at hp;cases hp
  |some p=>
   rw[ze hp];cases p with
   |work n=>
    have hn:=PW.work _ _ hp;refine⟨{y with place:=y.place+1,left:=n},M.turns,?_,?_,rfl,?_⟩
    .have:lasting {y with place:=y.place+1}=n:=by
      unfold lasting;rw[show({y with place:=y.place+1}:Job).parts[({y with place:=y.place+1}:Job).place]?=some (uv n) from hp]
     simp only[this];rfl
    .unfold kM;rw[au (show(0:Int)<dO (uv n) by show(0:Int)<(n:Int);omega)];rfl
    .exact⟨J1.DU,J1.uw,J1.pass,PW,(λ z=>by have:y.stand=.asleep:=z;rw[hs]at this;cases this),(λ _=>hn),(λ z=>by have:y.stand=.coming:=z;rw[hs]at this;cases this),J1.level⟩
   |nap n=>
    obtain⟨hn,_⟩:=PW.nap _ _ hp;refine⟨{y with place:=y.place+1,stand:=.asleep,wake:=M.now+1+n,turn:=M.turns},M.turns+1,rfl,?_,rfl,?_⟩
    .unfold kM;rw[ao (show¬(0:Int)<dO (MT n) by show¬(0:Int)< -(n:Int);omega)];have e:EL (de la ra M) {bZ j pa y with bX:=(bZ j pa y).bX+1} (-dO (MT n))=bZ j pa {y with place:=y.place+1,stand:=.asleep,wake:=M.now+1+n,turn:=M.turns}:=by
      have:-dO (MT n)=(n:Int):=by show-(-(n:Int))=_;omega
      rw[this];rfl
     rw[e];rfl
    .exact⟨J1.DU,J1.uw,J1.pass,PW,(λ _=>⟨n,hp⟩),(λ z=>by cases z),(λ z=>by cases z),J1.level⟩
 .rw[ao h1,ao (show¬(bZ j pa y).bX+1<(((y.parts.map dO).length:Nat):Int) by rw[eL,ep];omega)];by_cases h2:y.round+1<y.rounds
  .rw[au h2,au (show(bZ j pa y).bd+1<(bZ j pa y).rounds by show((y.round:Nat):Int)+1<(y.rounds:Int);omega)];obtain⟨n,hn,hp⟩:=PW.first;rw[ze hp];refine⟨{y with place:=0,round:=y.round+1,left:=n},M.turns,?_,?_,rfl,?_⟩
   .have:lasting {y with place:=0,round:=y.round+1}=n:=by
     unfold lasting;rw[show({y with place:=0,round:=y.round+1}:Job).parts[({y with place:=0,round:=y.round+1}:Job).place]?=some (uv n) from hp]
    simp only[hp,this];rfl
   .unfold kM;rw[au (show(0:Int)<dO (uv n) by show(0:Int)<(n:Int);omega)];rfl
   .exact⟨J1.DU,J1.uw,J1.pass,PW,(λ z=>by have:y.stand=.asleep:=z;rw[hs]at this;cases this),(λ _=>hn),(λ _=>rfl),J1.level⟩
  .rw[ao h2,ao (show¬(bZ j pa y).bd+1<(bZ j pa y).rounds by show¬((y.round:Nat):Int)+1<(y.rounds:Int);omega)];exact⟨{y with stand:=.done,finish:=M.now+1},M.turns,rfl,rfl,rfl,⟨J1.DU,J1.uw,J1.pass,PW,(λ z=>by cases z),(λ z=>by cases z),(λ z=>by cases z),J1.level⟩⟩
theorem Rf{n:Nat}(h:n<=3):Ac ((n:Nat):Int)=((2^n:Nat):Int):=by
 rcases(by omega:n=0\/n=1\/n=2\/n=3)with e|e|e|e<;>subst e<;>rfl
section
variable{N:ax}{j:Nat}{x:Job}
theorem V5(hx:jobAt N j=x)(h:¬x.stand=.ready):settled N j={N with current:=none}:=by
 unfold settled;dsimp only;rw[hx,au (by unfold isReady;exact W9.mpr h)]
theorem sX(h:x.stand=.ready):¬isReady x=false:=by unfold isReady;rw[h];decide
theorem aao(hx:jobAt N j=x)(h:x.stand=.ready)(p:N.policy=0)(u:N.slice<=x.used):settled N j={setJob N j {x with used:=0,turn:=N.turns}with turns:=N.turns+1,current:=none}:=by
 unfold settled;dsimp only;rw[hx,ao (sX h),au p,au u]
theorem aap(hx:jobAt N j=x)(h:x.stand=.ready)(p:N.policy=0)(u:¬N.slice<=x.used):settled N j={N with current:=some j}:=by
 unfold settled;dsimp only;rw[hx,ao (sX h),au p,ao u]
theorem aaq(hx:jobAt N j=x)(h:x.stand=.ready)(p:¬N.policy=0)(q:N.policy=1\/N.policy=2):settled N j={setJob N j {x with turn:=N.turns}with turns:=N.turns+1,current:=none}:=by
 unfold settled;dsimp only;rw[hx,ao (sX h),ao p,au q]
theorem aar(hx:jobAt N j=x)(h:x.stand=.ready)(p:¬N.policy=0)(q:¬(N.policy=1\/N.policy=2))(r:N.policy=5)(u:2^x.level<=x.used):settled N j={setJob N j {x with used:=0,level:=min (LEVELS -1) (x.level+1),turn:=N.turns}with turns:=N.turns+1,current:=none}:=by
 unfold settled;dsimp only;rw[hx,ao (sX h),ao p,ao q,au r,au u]
theorem aas(hx:jobAt N j=x)(h:x.stand=.ready)(p:¬N.policy=0)(q:¬(N.policy=1\/N.policy=2))(r:N.policy=5)(u:¬2^x.level<=x.used):settled N j=N:=by
 unfold settled;dsimp only;rw[hx,ao (sX h),ao p,ao q,au r,ao u]
theorem aat(hx:jobAt N j=x)(h:x.stand=.ready)(p:¬N.policy=0)(q:¬(N.policy=1\/N.policy=2))(r:¬N.policy=5):settled N j=N:=by
 unfold settled;dsimp only;rw[hx,ao (sX h),ao p,ao q,ao r]
end
section
variable{n:MV}{y:JV}
theorem V6(h:¬y.aF=1):cq n y=({n with current:=.bu},y):=by
 unfold cq;dsimp only;rw[au h]
theorem aau(h:y.aF=1)(p:n.policy=0)(u:n.fH<=y.used):cq n y=(iN {n with current:=.bu},{y with used:=0,turn:=n.turns}):=by
 unfold cq iD;dsimp only;rw[ao (λ z=>z h),au p,au u]
theorem aav(h:y.aF=1)(p:n.policy=0)(u:¬n.fH<=y.used):cq n y=({n with current:=.int y.bh},y):=by
 unfold cq iD;dsimp only;rw[ao (λ z=>z h),au p,ao u]
theorem aaw(h:y.aF=1)(p:¬n.policy=0)(q:n.policy=1\/n.policy=2):cq n y=(iN {n with current:=.bu},{y with turn:=n.turns}):=by
 unfold cq;dsimp only;rw[ao (λ z=>z h),ao p,au q]
theorem aax(h:y.aF=1)(p:¬n.policy=0)(q:¬(n.policy=1\/n.policy=2))(r:n.policy=5)(u:Ac y.level<=y.used):cq n y=(iN {n with current:=.bu},{y with used:=0,level:=mn (y.level+1) 3,turn:=n.turns}):=by
 unfold cq kN;dsimp only;rw[ao (λ z=>z h),ao p,ao q,au r,au u]
theorem aay(h:y.aF=1)(p:¬n.policy=0)(q:¬(n.policy=1\/n.policy=2))(r:n.policy=5)(u:¬Ac y.level<=y.used):cq n y=({n with current:=.bu},y):=by
 unfold cq kN;dsimp only;rw[ao (λ z=>z h),ao p,ao q,au r,ao u]
theorem aaz(h:y.aF=1)(p:¬n.policy=0)(q:¬(n.policy=1\/n.policy=2))(r:¬n.policy=5):cq n y=({n with current:=.bu},y):=by
 unfold cq;dsimp only;rw[ao (λ z=>z h),ao p,ao q,ao r]
end
theorem Ao(M:ax)(j t t':Nat)(c':Option Nat)(z z':Job):({setJob {setJob M j z with turns:=t} j z' with turns:=t',current:=c'}:ax)={setJob M j z' with turns:=t',current:=c'}:=by
 show Hi _ _ _ _ _ _ ((M.jobs.set j z).set j z') _ _ _ _=Hi _ _ _ _ _ _ (M.jobs.set j z') _ _ _ _;rw[List.set_set];rfl
theorem CO(M:ax){j:Nat}(hj:j<M.jobs.length)(la ra pa:MY){z:Job}(t:Nat)(J:e7 z)(hc:M.policy≠0 ->M.current=none):
  ∃z' t' c',settled {setJob M j z with turns:=t} j={setJob M j z' with turns:=t',current:=c'}/\cq (de la ra {M with turns:=t}) (bZ j pa z)=(de la ra {M with turns:=t',current:=c'},bZ j pa z')/\z'.parts=z.parts/\e7 z'/\(M.policy≠0 ->c'=none):=by
 have hz:jobAt {setJob M j z with turns:=t} j=z:=by
  show(M.jobs.set j z).getD j noJob=z;rw[aG,qF hj];rfl
 by_cases hr:z.stand=.ready
 .have sU:(bZ j pa z).aF=1:=(ir _).2.1.mpr hr;by_cases p0:M.policy=0
  .have V7:(de la ra {M with turns:=t}).policy=0:=by show((M.policy:Nat):Int)=0;omega
   by_cases hu:M.slice<=z.used
   .rw[aao hz hr p0 hu,aau sU V7 (show((M.slice:Nat):Int)<=((z.used:Nat):Int) by omega)];exact⟨{z with used:=0,turn:=t},t+1,none,Ao ..,rfl,rfl,⟨J.DU,J.uw,J.pass,J.parts,J.asleep,J.ready,J.coming,J.level⟩,λ _=>rfl⟩
   .rw[aap hz hr p0 hu,aav sU V7 (show¬((M.slice:Nat):Int)<=((z.used:Nat):Int) by omega)];exact⟨z,t,some j,rfl,rfl,rfl,J,λ h=>absurd p0 h⟩
  .have V7:¬(de la ra {M with turns:=t}).policy=0:=by show¬((M.policy:Nat):Int)=0;omega
   by_cases p1:M.policy=1\/M.policy=2
   .have p1':(de la ra {M with turns:=t}).policy=1\/(de la ra {M with turns:=t}).policy=2:=by show((M.policy:Nat):Int)=1\/((M.policy:Nat):Int)=2;omega
    rw[aaq hz hr p0 p1,aaw sU V7 p1'];exact⟨{z with turn:=t},t+1,none,Ao ..,rfl,rfl,⟨J.DU,J.uw,J.pass,J.parts,J.asleep,J.ready,J.coming,J.level⟩,λ _=>rfl⟩
   .have p1':¬((de la ra {M with turns:=t}).policy=1\/(de la ra {M with turns:=t}).policy=2):=by show¬(((M.policy:Nat):Int)=1\/((M.policy:Nat):Int)=2);omega
    have Ls:=hc p0;have keep:({setJob M j z with turns:=t}:ax)={setJob M j z with turns:=t,current:=none}:=by
     show Hi M.policy M.slice M.age M.boost M.begun M.now (M.jobs.set j z) t M.current M.floor M.who=_;rw[Ls];rfl
    by_cases p5:M.policy=5
    .have p5':(de la ra {M with turns:=t}).policy=5:=by show((M.policy:Nat):Int)=5;omega
     have el:Ac (bZ j pa z).level=((2^z.level:Nat):Int):=Rf J.level;by_cases hu:2^z.level<=z.used
     .rw[aar hz hr p0 p1 p5 hu,aax sU V7 p1' p5' (by rw[el];exact aaA.mpr hu)];refine⟨{z with used:=0,level:=min (LEVELS -1) (z.level+1),turn:=t},t+1,none,Ao ..,?_,rfl,⟨J.DU,J.uw,J.pass,J.parts,J.asleep,J.ready,J.coming,Nat.min_le_left _ _⟩,λ _=>rfl⟩;have em:mn ((bZ j pa z).level+1) 3=((min (LEVELS -1) (z.level+1):Nat):Int):=by
       unfold mn;show(if(3:Int)<((z.level:Nat):Int)+1 then(3:Int)else((z.level:Nat):Int)+1)=((min 3 (z.level+1):Nat):Int);split<;>omega
      rw[em];rfl
     .rw[aas hz hr p0 p1 p5 hu,aay sU V7 p1' p5' (by rw[el];intro q;exact hu (aaA.mp q))];exact⟨z,t,none,keep,rfl,rfl,J,λ _=>rfl⟩
    .have p5':¬(de la ra {M with turns:=t}).policy=5:=by show¬((M.policy:Nat):Int)=5;omega
     rw[aat hz hr p0 p1 p5,aaz sU V7 p1' p5'];exact⟨z,t,none,keep,rfl,rfl,J,λ _=>rfl⟩
 .rw[V5 hz hr,V6 (show¬(bZ j pa z).aF=1 from λ q=>hr ((ir _).2.1.mp q))];exact⟨z,t,none,rfl,rfl,rfl,J,λ _=>rfl⟩
end JS
namespace JS
open Vbtkad
variable{A:MA}{m:ax}
def jV(m:ax)(j:Nat):ax:={m with jobs:=eQ m j,floor:=greater m.floor (jobAt m j).pass,who:=m.who++[some j]}
theorem Jc(m:ax)(j:Nat):ranOne m j=settled (if(EW (jobAt (jV m j) j)).left=0 then movedOn (jV m j) j (EW (jobAt (jV m j) j))else setJob (jV m j) j (EW (jobAt (jV m j) j))) j:=rfl
theorem CP(m:ax)(j:Nat):(eQ m j).length=m.jobs.length:=by
 rw[lW,MU]
theorem rG{j:Nat}(h:j<m.jobs.length):(eQ m j).getD j noJob=jobAt m j:=by
 rw[lW,aG,ux,ay h];have:¬(j∈(readies m).filter λ i=>decide (i≠j)):=by
  rw[ii];simp
 simp only[this,pH];unfold jobAt;rw[aG,ay h];rfl
theorem M0{x:Job}(J:e7 x):e7 (Hj x):=⟨J.DU,J.uw,J.pass,J.parts,J.asleep,J.ready,J.coming,J.level⟩
theorem EX(W:jz m)(j:Nat):jz {m with jobs:=eQ m j}:=by
 rw[lW];refine W.idx λ k x J=>?_
 split
 .exact M0 J
 .exact J
theorem Rg{p w:PM}{i:Nat}{q:PJ}{r s:MV×JV}(h1:mL (at_ p i).j.bh p=w)(h2:at_ w i=q)(h3:eD w.m q.j q.ps=r)(h4:cq r.1 r.2=s):Q6 p i={m:=s.1,js:=w.js.set i {q with j:=s.2},run:=w.run++[s.2.bh]}:=by
 subst h1 h2 h3 h4;rfl
theorem Hk(W:jz m){j:Nat}(hj:j<m.jobs.length)(hr:(jobAt m j).stand=.ready):Q6 (bw A m) j=bw A (ranOne m j)/\(ranOne m j).who=m.who++[some j]/\(ranOne m j).now=m.now/\jz {ranOne m j with now:=m.now+1}:=by
 have J:=W.job j hj;have aaB:=J.ready hr;have W1:=EX W j;have ej:jobAt (jV m j) j=jobAt m j:=rG hj;have pq:j<(jV m j).jobs.length:=by show j<(eQ m j).length;rw[CP];exact hj
 obtain⟨fok,feq⟩:=lU W.floor J.pass;obtain⟨y,hy⟩:=bS (EW (jobAt m j));have JY:∀l,1<=l ->e7 {y with left:=l}:=λ l hl=>by
  subst hy;exact⟨J.DU,J.uw,(CN J).1,J.parts,J.asleep,λ _=>hl,J.coming,J.level⟩
 have Jd:y.stand=.ready:=by subst hy;exact hr
 have Ep:y.left=(jobAt m j).left -1:=by subst hy;rfl
 have hyp:y.parts=(jobAt m j).parts:=by subst hy;rfl
 have step:∃z t,(if y.left=0 then movedOn (jV m j) j y else setJob (jV m j) j y)={setJob (jV m j) j z with turns:=t}/\eD (de A.la A.ra {m with jobs:=eQ m j}) (bZ j (A.ps.getD j 0) (jobAt m j)) ((jobAt m j).parts.map dO)=(de A.la A.ra {jV m j with turns:=t},bZ j (A.ps.getD j 0) z)/\z.parts=(jobAt m j).parts/\e7 z:=by
  have em:sS (de A.la A.ra {m with jobs:=eQ m j}) (bZ j (A.ps.getD j 0) (jobAt m j))=de A.la A.ra (jV m j):=by
   unfold sS;show({de A.la A.ra m with dI:=mx (fI m.floor) (fI (jobAt m j).pass)}:MV)=_;rw[<-feq];rfl
  unfold eD;rw[em,Rc J aaB,<-hy];by_cases h0:y.left=0
  .rw[au h0,au (show(bZ j (A.ps.getD j 0) (jobAt m j)).left -1=0 by show(((jobAt m j).left:Nat):Int) -1=0;omega),<-hyp];exact Jb (jV m j) j A.la A.ra (A.ps.getD j 0) JY Jd
  .rw[ao h0,ao (show¬(bZ j (A.ps.getD j 0) (jobAt m j)).left -1=0 by show¬(((jobAt m j).left:Nat):Int) -1=0;omega)];have:=JY y.left ah;exact⟨y,m.turns,rfl,rfl,hyp,this⟩
 obtain⟨z,t,s1,s2,s3,JZ⟩:=step;obtain⟨z',t',c',q1,q2,q3,JZ',q5⟩:=CO (jV m j) pq A.la A.ra (A.ps.getD j 0) t JZ W.QO;have eR:ranOne m j={setJob (jV m j) j z' with turns:=t',current:=c'}:=by
  rw[Jc,ej,<-hy,s1,q1]
 have WW:jz {ranOne m j with now:=m.now+1}:=by
  rw[eR];have W2:=W1.set (i:=j) JZ';refine⟨W2.job,fok,q5,W2.len,W.age,?_⟩;show(m.who++[some j]).length=m.now+1;rw[dc,W.who];rfl
 refine⟨?_,by rw[eR];rfl,by rw[eR];rfl,WW⟩;have ew:mL (at_ (bw A m) j).j.bh (bw A m)=bw A {m with jobs:=eQ m j}:=by
  rw[fg hj];exact MZ j
 have sy:j<({m with jobs:=eQ m j}:ax).jobs.length:=pq;have eq:at_ (bw A {m with jobs:=eQ m j}) j=eF A j (jobAt m j):=by
  rw[fg sy];exact congrArg (eF A j) (rG hj)
 rw[Rg ew eq s2 q2,eR];have ez:({eF A j (jobAt m j)with j:=bZ j (A.ps.getD j 0) z'}:PJ)=eF A j z':=by
  show PJ.mk _ _ ((jobAt m j).parts.map dO)=PJ.mk _ _ (z'.parts.map dO);rw[q3,s3];rfl
 show PM.mk _ (((eQ m j).mapIdx (eF A)).set j {eF A j (jobAt m j)with j:=bZ j (A.ps.getD j 0) z'}) (m.who.map whoNumber++[((j:Nat):Int)])=PM.mk _ (((eQ m j).set j z').mapIdx (eF A)) ((m.who++[some j]).map whoNumber);rw[ez,vA,dZ];rfl
theorem rH{j:Nat}(W:jz m)(h:chosen m=some j):j<m.jobs.length/\(jobAt m j).stand=.ready:=by
 rw[zc m (lV W)]at h;cases e:(readies m).map λ i=>(rk m i,i)with
 |nil=>rw[e]at h;cases h
 |cons b r=>
  rw[e]at h;have h':(L2.pick HT.lexLt b r).2=j:=cT h;have hm:=rB HT.lexLt r b;rw[<-e]at hm;obtain⟨k,hk,ek⟩:=cY.mp hm;have:k=j:=by rw[<-h',<-ek]
  rw[<-this];obtain⟨a1,a2⟩:=ii.mp hk;exact⟨gB.mp a1,j5.mp a2⟩
theorem CQ(W:jz m):rD (bw A m)=bw A (tick m)/\jz (tick m):=by
 obtain⟨e1,W1⟩:=CI (A:=A) W;obtain⟨e2,W2⟩:=CJ (A:=A) W1;obtain⟨e3,W3⟩:=CL (A:=A) W2;unfold rD;rw[e1,e2,e3];have et:tick m=(let b:=match chosen (lifted (arrived m))with|none=>{lifted (arrived m)with who:=(lifted (arrived m)).who++[none],current:=none}|some j=>ranOne (lifted (arrived m)) j;{b with now:=b.now+1}):=rfl;have ea:lifted (arrived m)=lifted (((bf (((sleepers m).filter λ j=>decide ((jobAt m j).wake<=m.now)).foldl woken m).jobs.length).filter λ j=>(jobAt (((sleepers m).filter λ j=>decide ((jobAt m j).wake<=m.now)).foldl woken m) j).stand==.coming&&decide ((jobAt (((sleepers m).filter λ j=>decide ((jobAt m j).wake<=m.now)).foldl woken m) j).come<=(((sleepers m).filter λ j=>decide ((jobAt m j).wake<=m.now)).foldl woken m).now)).foldl (λ b j=>made b j (jobAt b j)) (((sleepers m).filter λ j=>decide ((jobAt m j).wake<=m.now)).foldl woken m)):=rfl;rw[et,ea];generalize lifted (((bf (((sleepers m).filter λ j=>decide ((jobAt m j).wake<=m.now)).foldl woken m).jobs.length).filter λ j=>(jobAt (((sleepers m).filter λ j=>decide ((jobAt m j).wake<=m.now)).foldl woken m) j).stand==.coming&&decide ((jobAt (((sleepers m).filter λ j=>decide ((jobAt m j).wake<=m.now)).foldl woken m) j).come<=(((sleepers m).filter λ j=>decide ((jobAt m j).wake<=m.now)).foldl woken m).now)).foldl (λ b j=>made b j (jobAt b j)) (((sleepers m).filter λ j=>decide ((jobAt m j).wake<=m.now)).foldl woken m))=a at W3;unfold rC;rw[I_ W3];cases hc:chosen a with
 |none=>
  dsimp only;refine⟨?_,⟨W3.job,W3.floor,λ _=>rfl,W3.len,W3.age,?_⟩⟩
  .show PM.mk _ _ (a.who.map whoNumber++[-1])=PM.mk _ _ ((a.who++[none]).map whoNumber);rw[dZ];rfl
  .show(a.who++[none]).length=a.now+1;rw[dc,W3.who];rfl
 |some j=>
  obtain⟨hj,hr⟩:=rH W3 hc;obtain⟨r1,r3,r4,r5⟩:=Hk (A:=A) W3 hj hr;dsimp only;rw[r1];refine⟨rfl,?_⟩;rw[r4];exact r5
end JS
namespace JS
open PySem PySem.Spec PyProof.Rows L2
theorem ae.Rh{K:aE}{H H':Hp}{a:Addr}{xs:List V}(e:ae H H')(h:e9 K H a xs):e9 K H' a xs:=by
 rcases h with h|h
 .rcases h with h|⟨o,h⟩
  .exact .inl (.inl (e _ _ h))
  .exact .inl (.inr ⟨o,e _ _ h⟩)
 .exact .inr h
theorem ae.new{H:Hp}{p:Addr}{o:HO}(h:H p=none):ae H (aS H p o):=λ b u e=>by rw[ag (aM e h)];exact e
section
variable{P:dz}{w:c9}{K:aE}{mg:Str ->Option aq}{base:Heap}{C:CA}{f:Addr}{fd:bp}
def bC(n:Int)(r:Int×Int):Bool:=decide (r.1<=n)&&decide (n<=r.2)
def rK(K:aE):Sp:=λ vs H Q _=>∃(n:Int)(b:Addr)(r:Int×Int),vs=[.int n,.ref b]/\e9 K H b [.int r.1,.int r.2]/\Q (.bl (bC n r)) H
theorem Je(F:bi K "is_within" ui f fd):bj P w K mg base CX0 1 f fd ["number","bounds"] (rK K):=by
 refine F.ok ["number","bounds"] λ b_ A aA s H vs Q E hr h nd=>?_
 obtain⟨n,b,r,rfl,hb,k⟩:=h;refine⟨_,af (aw (KI qH qH (bK qg (pv 1) am (λ _ _=>rfl)) (pv 0) (bK qg (pv 1) am (λ _ _=>rfl)))),?_⟩
 try dsimp only [bx,Cx.dJ]
 refine⟨_,rfl,b,_,_,_,rfl,rfl,hb,cG (j:=0) rfl,_,rfl,_,_,rfl,rfl,_,rfl,?_⟩;by_cases h1:r.1<=n
 .rw[au (by simpa using h1)];refine⟨_,rfl,b,_,_,_,rfl,rfl,hb,cG (j:=1) rfl,_,_,rfl,rfl,?_⟩;have:bC n r=decide (n<=r.2):=by unfold bC;rw[bO h1];rfl
  show Q (.bl (decide (n<=r.2))) H;rw[<-this];exact k
 .rw[ao (by simpa using h1)];have:bC n r=false:=by unfold bC;rw[gh h1];rfl
  rw[this]at k;exact k
def withinAll(ns:List Int)(rs:List (Int×Int)):Bool:=(ns.zip rs).all λ e=>bC e.1 e.2
def g8(K:aE)(H:Hp)(ra:Addr)(rs:List (Int×Int)):Prop:=∃bs:List Addr,e9 K H ra (bs.map V.ref)/\bs.length=rs.length/\∀(i:Nat)(b:Addr)(r:Int×Int),bs[i]?=some b ->rs[i]?=some r ->e9 K H b [.int r.1,.int r.2]
def EY(K:aE):Sp:=λ vs H Q _=>∃(la ra:Addr)(ns:List Int)(rs:List (Int×Int)),vs=[.ref la,.ref ra]/\aP K H la (ns.map V.int)/\g8 K H ra rs/\ns.length=rs.length/\∀H',ae H H' ->Q (.bl (withinAll ns rs)) H'
abbrev Jf(P:dz)(w:c9)(K:aE)(mg:Str ->Option aq)(base:Heap):Prop:=cF P w K mg base "are_within" [fb,DX] 2 (EY K)
theorem wR{α:Type}(p:α ->Bool){l:List α}{i:Nat}{x:α}(hx:l[i]?=some x):(l.take (i+1)).all p=((l.take i).all p&&p x):=by
 rw[mz,hx,List.all_append];simp
theorem Ri(F:bi K "are_within" rp f fd)(T:Txt K mg C)(D1:cF P w K mg base "is_within" ["number","bounds"] 1 (rK K)):bj P w K mg base CX0 2 f fd [fb,DX] (EY K):=by
 refine F.ok [fb,DX,"number","bounds"] λ b_ A aA s H vs Q E hr h nd=>?_
 obtain⟨la,ra,ns,rs,rfl,hl,⟨bs,hbs,j3,hb⟩,bH,k⟩:=h;refine⟨_,ab (ee eY rfl (QI rfl (T.bu _ zq_dk) (bA (pv 0) (pv 1))) (sC rfl (eU (aU (i:=2) nd rfl (aH rfl)) (eU (aU (i:=3) nd rfl (aH rfl)) oS)))
   (af (br (dw (cx (al D1 hr rfl (bA (pv 2) (pv 3))))) (af (aw tS)) aK)))
  (af (aw tS)),?_⟩
 try dsimp only [bx,Cx.dJ]
 refine⟨_,rfl,_,rfl,la,ra,_,_,rfl,hl,hbs,?_⟩;refine Me (λ i σ H'=>ae H H'/\(∃x y,σ=[some (.ref la),some (.ref ra),x,y])/\((ns.zip rs).take i).all (λ e=>bC e.1 e.2)=true) ⟨ae.refl H,⟨none,none,rfl⟩,rfl⟩ (by rw[ak,ak];omega) (λ i σ H' _ p=>⟨ae.seq p.1 hl,ae.Rh p.1 hbs⟩) (λ i x y Tp σ H' hx hy p hT=>?_) (λ σ H' p=>?_)
 .obtain⟨sh,⟨u1,u2,rfl⟩,ib⟩:=p;rw[aT]at hx hy;cases hn:ns[i]?with
  |none=>rw[hn]at hx;cases hx
  |some n=>
   cases Xr:bs[i]?with
   |none=>rw[Xr]at hy;cases hy
   |some b=>
    rw[hn]at hx;rw[Xr]at hy;cases hx;cases hy;have jF:i<rs.length:=by
     have:=(gM.mp Xr).1;omega
    have Vk:rs[i]?=some rs[i]:=ay jF;have hz:(ns.zip rs)[i]?=some (n,rs[i]):=by
     rw[GJ];exact⟨hn,Vk⟩
    have uw:ae H (aS H' Tp (.fc [V.int n,V.ref b])):=sh.trans (ae.new hT);refine⟨Tp,_,rfl,e9.of aa,rfl,_,_,rfl,_,_,rfl,rfl,?_⟩;refine⟨_,rfl,_,rfl,n,b,rs[i],rfl,ae.Rh uw (hb i b _ Xr Vk),_,rfl,?_⟩;have st:=wR (λ e:Int×(Int×Int)=>bC e.1 e.2) hz;rw[ib]at st;cases hw:bC n rs[i]with
    |true=>
     refine⟨uw,⟨_,_,rfl⟩,?_⟩;rw[st];exact hw
    |false=>
     have:withinAll ns rs=false:=by
      unfold withinAll;rw[TW];exact⟨_,cH hz,by rw[hw];decide⟩
     rw[this]at k;exact k _ uw
 .obtain⟨sh,⟨u1,u2,rfl⟩,ib⟩:=p;have:withinAll ns rs=true:=by
   unfold withinAll;rw[ak,nG (by rw[GG];omega)]at ib;exact ib
  rw[this]at k;exact k _ sh
theorem gk{c:Bool}{A B:Prop}(hc:c=true)(h:A):if c=true then A else B:=by rw[au hc];exact h
theorem gg{c:Bool}{A B:Prop}(hc:c=false)(h:B):if c=true then A else B:=by rw[ao (by rw[hc];decide)];exact h
structure ac3(K:aE)(mg:Str ->Option aq)(aaC:List (Str×(Int×Int)))(rows:List (Str×List (Int×Int)))(ac4:List (Str×Int)):Prop where
 pair:∀p∈aaC,∃t,mg p.1=some (.ref t)/\∀H:Hp,e9 K H t [.int p.2.1,.int p.2.2]
 row:∀p∈rows,∃t,mg p.1=some (.ref t)/\∀H:Hp,g8 K H t p.2
 int:∀p∈ac4,∃t,mg p.1=some (.int p.2 t)
def aaD:List (Str×(Int×Int)):=[("URGENCY_RANGE",(0,9)),("SHARES_RANGE",(1,100)),("TRACE_LENGTH_RANGE",(0,200)),("PARTS_COUNT_RANGE",(1,12)),("PART_RANGE",(-100,50)),("ONCE_COUNT_RANGE",(0,12)),("KIND_COUNT_RANGE",(1,6))]
def ac5:List (Str×List (Int×Int)):=[("BEGIN_RANGES",[(0,5),(1,20),(0,20),(0,100)]),("JOB_RANGES",[(0,500),(0,9),(1,100),(0,1000),(1,10)]),("TICKS_RANGES",[(1,200)]),("UNTIL_OVER_RANGES",[(1,1000)]),("COMPARE_RANGES",[(1,400)]),("ONCE_RANGES",[(0,60),(1,20),(0,200)]),("KIND_RANGES",[(1,12),(1,12),(1,12)]),("RANKED_RANGES",[(1,12),(1,12),(1,12),(0,30)]),("DEMAND_RANGES",[(0,10000)]),("RANKED_LENGTH_RANGES",[(0,300)])]
def aaE:List (Str×Int):=[("BEGIN",0),("NOT_BEGUN",-1),("NOT_AS_TOLD",-2),("TOO_MANY_JOBS",-3),("COMES_TOO_EARLY",-4),("TOO_LATE",-5),("OVER_ALREADY",-6),("MOST_JOBS",16),("LAST_TIME",3000),("FIRST_PLACE",13),("POLICY_COUNT",6)]
abbrev cQ(K:aE)(mg:Str ->Option aq):=ac3 K mg aaD ac5 aaE
def iE(n:Int):Bool:= !(decide (n=0)|| !bC n (-100,50))
def oq(row:List Int)(k:Nat):Bool:= !(decide (row.getD k 0<0)&&decide (row.getD (k+1) 0<0))
def jW(row:List Int):Bool:=bC row.length (1,12)&&(row.all iE&&((bf (row.length -1)).all (oq row)&&(decide (row.getD 0 0>0)&&decide (row.getD (row.length -1) 0>0))))
def Hl(K:aE):Sp:=λ vs H Q _=>∃(ra:Addr)(row:List Int),vs=[.ref ra]/\aP K H ra (row.map V.int)/\Q (.bl (jW row)) H
theorem cA{row:List Int}{k:Nat}(h:k<row.length):ml (row.map V.int) (k:Int)=some (.int (row.getD k 0)):=by
 refine cG ?_;rw[aT,ay h,aG,ay h];rfl
theorem Hm{row:List Int}(h:row≠[]):ml (row.map V.int) (-1)=some (.int (row.getD (row.length -1) 0)):=by
 have e:=List.dropLast_concat_getLast h;have e2:row.map V.int=row.dropLast.map V.int++[V.int (row.getLast h)]:=by
  conv=>lhs;rw[<-e]
  rw[dZ];rfl
 rw[e2,K_];rw[aG,<-TX,List.getLast?_eq_some_getLast h];rfl
theorem M_(F:bi K "are_parts" um f fd)(T:Txt K mg C)(U:cQ K mg)(D1:cF P w K mg base "is_within" ["number","bounds"] 1 (rK K)):bj P w K mg base CX0 2 f fd [c_] (Hl K):=by
 refine F.ok [c_,"part","k"] λ b_ A aA s H vs Q E hr h nd=>?_
 obtain⟨ra,row,rfl,hl,k⟩:=h;obtain⟨t1,EZ,Pu⟩:=U.pair ("PARTS_COUNT_RANGE",(1,12)) zq_dk;obtain⟨t2,pM,Ip⟩:=U.pair ("PART_RANGE",(-100,50)) zq_dk;refine⟨_,ab (br (dw (cx (al D1 hr rfl (bA (aY aW (by rfl) (T.bu _ zq_dk) eX (aO (pv 0))) (b9 (v:=.ref t1) rfl EZ rfl))))) (af (aw tS)) aK)
  (ab (ee eY rfl (bF (pv 0)) (aU (i:=1) nd rfl (aH rfl)) (af (br (PW.pt (tT (aI dM (pv 1) am (aR _)) (m_ (dw (cx (al D1 hr rfl (bA (pv 1) (b9 (v:=.ref t2) rfl pM rfl)))))))) (af (aw tS)) aK)))
  (ab (ee eY rfl (Io rfl (T.bu _ zq_dk) (bA am (aY aW (by rfl) (T.bu _ zq_dk) eX (aO (pv 0))))) (aU (i:=2) nd rfl (aH rfl)) (af (br (PW.pt (qd (aI tV (bK be (pv 0) (bG gU (pv 2) am) (λ _ _=>rfl)) am (aR _)) (lI (aI tV (bK be (pv 0) (pv 2) (λ _ _=>rfl)) am (aR _))))) (af (aw tS)) aK)))
  (af (aw (U1 (oU kZ (bK be (pv 0) am (λ _ _=>rfl)) am (aR _)) (Kt (oU kZ (bK be (pv 0) (F6 zM am) (λ _ _=>rfl)) am (aR _)))))))),?_⟩
 try dsimp only [bx,Cx.dJ]
 refine⟨_,rfl,ra,_,rfl,.inl hl,_,t1,(1,12),rfl,Pu H,_,rfl,?_⟩;rw[ak];cases hc:bC (row.length:Int) (1,12)with
 |false=>
  have:jW row=false:=by unfold jW;rw[hc];rfl
  rw[this]at k;exact k
 |true=>
 have Pz:1<=row.length/\row.length<=12:=by
  unfold bC at hc;simp only[bq,bc]at hc;omega
 refine⟨_,rfl,ra,rfl,⟨_,hl⟩,eV (xs:=row.map V.int) (λ i σ H'=>H'=H/\(∃x,σ=[some (.ref ra),x,none])/\(row.take i).all iE=true) ⟨rfl,⟨none,rfl⟩,rfl⟩ (λ i σ H' _ p=>p.1▸hl) (λ i x σ H' hx p=>?_) (λ σ H' p=>?_)⟩
 .obtain⟨rfl,⟨u,rfl⟩,ib⟩:=p;rw[aT]at hx;cases hn:row[i]?with
  |none=>rw[hn]at hx;cases hx
  |some n=>
   rw[hn]at hx;cases hx;have st:=wR iE hn;rw[ib]at st;have bad:iE n=false ->jW row=false:=λ hb=>by
    have:row.all iE=false:=by
     rw[TW];exact⟨n,cH hn,by rw[hb];decide⟩
    unfold jW;rw[this,hc];rfl
   refine⟨_,rfl,rfl,_,rfl,?_⟩;rw[gf];by_cases h0:n=0
   .have hb:=bad (by unfold iE;rw[bO h0];rfl);refine gk (bO h0) ?_;rw[hb]at k;exact k
   .refine gg (gh h0) ?_;refine⟨_,rfl,n,t2,(-100,50),rfl,Ip _,_,rfl,?_⟩;cases hw:bC n (-100,50)with
    |false=>
     have hb:=bad (by unfold iE;rw[hw];simp);rw[hb]at k;exact k
    |true=>
     refine⟨rfl,⟨_,rfl⟩,?_⟩;rw[st];unfold iE;rw[hw,gh h0];rfl
 .obtain⟨rfl,⟨u,rfl⟩,ib⟩:=p;rw[ak,km]at ib;refine⟨_,rfl,ra,_,rfl,.inl hl,1,_,rfl,?_,?_⟩
  .rw[ak];omega
  rw[ak,show(((row.length:Nat):Int) -1).toNat=row.length -1 by omega];refine kY (lo:=1) (n:=row.length -1) (λ i σ H1=>H1=H'/\(∃x,σ=[some (.ref ra),u,x])/\((bf (row.length -1)).take i).all (oq row)=true) ⟨rfl,⟨none,rfl⟩,rfl⟩ (λ i σ H1 hi p=>?_) (λ σ H1 p=>?_)
  .obtain⟨rfl,⟨u2,rfl⟩,Hn⟩:=p;have Vk:(bf (row.length -1))[i]?=some i:=by rw[CS hi]
   have st:=wR (oq row) Vk;rw[Hn]at st;have e1:(1+(i:Int)) -1=(i:Int):=by omega
   have e2:(1+(i:Int))=((i+1:Nat):Int):=by omega
   refine⟨_,rfl,_,rfl,_,_,rfl,rfl,ra,_,_,_,rfl,rfl,hl,(by rw[e1];exact cA ah),_,_,rfl,rfl,_,rfl,?_⟩;have sk:oq row i= !(decide (row.getD i 0<0)&&decide (row.getD (i+1) 0<0)):=rfl;by_cases h1:row.getD i 0<0
   .refine gk (bO h1) ?_;refine⟨_,rfl,_,rfl,ra,_,_,_,rfl,rfl,hl,(by rw[e2];exact cA ah),_,_,rfl,rfl,_,rfl,?_⟩;rw[bO h1]at sk;by_cases h2:row.getD (i+1) 0<0
    .refine gk (bO h2) ?_;rw[bO h2]at sk;have:jW row=false:=by
      have:(bf (row.length -1)).all (oq row)=false:=by
       rw[TW];exact⟨i,cH Vk,by rw[sk];decide⟩
      unfold jW;rw[this,hc,ib];rfl
     rw[this]at k;exact k
    .refine gg (gh h2) ?_;rw[gh h2]at sk;exact⟨rfl,⟨_,rfl⟩,by rw[st,sk];rfl⟩
   .refine gg (gh h1) ?_;rw[gh h1]at sk;exact⟨rfl,⟨_,rfl⟩,by rw[st,sk];rfl⟩
  .obtain⟨rfl,⟨u2,rfl⟩,Hn⟩:=p;rw[nG (by rw[ko];exact ci _)]at Hn;have jD:row≠[]:=λ z=>by rw[z]at Pz;exact absurd Pz.1 zq_dc
   have hp:jW row=(decide (row.getD 0 0>0)&&decide (row.getD (row.length -1) 0>0)):=by
    unfold jW;rw[hc,ib,Hn];rfl
   rw[hp]at k;refine⟨_,rfl,ra,_,_,_,rfl,rfl,hl,cA (k:=0) ah,_,_,rfl,rfl,_,rfl,?_⟩;by_cases h1:row.getD 0 0>0
   .refine gk (bO h1) ?_;rw[bO h1]at k;exact⟨_,rfl,_,rfl,ra,_,_,_,rfl,rfl,hl,Hm jD,_,_,rfl,rfl,k⟩
   .refine gg (gh h1) ?_;rw[gh h1]at k;exact k
def wS(t:List Int):List Int:=t.set (t.length -1) (t.getD (t.length -1) 0+1)
def df(l:List Int):Nat ->List Int
 |0=>[]
 |k+1=>if 0<k/\l.getD k 0=l.getD (k -1) 0 then wS (df l k)else df l k++[l.getD k 0,1]
def Ap(l:List Int):List Int:=((df l l.length).length:Int)/2::df l l.length
theorem qr(l:List Int):∀k,(df l k).length<=2*k/\(0<k ->df l k≠[])
 |0=>⟨ci _,λ h=>absurd h zq_dc⟩
 |k+1=>by
  obtain⟨h1,h2⟩:=qr l k;show(if 0<k/\l.getD k 0=l.getD (k -1) 0 then wS (df l k)else df l k++[l.getD k 0,1]).length<=_/\(_ ->(if 0<k/\l.getD k 0=l.getD (k -1) 0 then wS (df l k)else df l k++[l.getD k 0,1])≠[]);by_cases h:0<k/\l.getD k 0=l.getD (k -1) 0
  .rw[au h];have jD:=h2 h.1;unfold wS;rw[i8];refine⟨ah,λ _ z=>?_⟩;have:=congrArg nA z;rw[i8]at this;exact jD (aaF this)
  .rw[ao h,dc];refine⟨by show(df l k).length+2<=_;omega,λ _ z=>by simp at z⟩
theorem ae.bN{H H':Hp}{p:Addr}(s:ae H H')(h:H' p=none):H p=none:=by
 cases e:H p with
 |none=>rfl
 |some o=>
  have:=s p o e;rw[h]at this;cases this
theorem Na{n:Nat}(h:0<n):DO n (-1)=some (n -1):=by
 unfold DO;rw[ao zq_dc,au ah];congr 1;omega
def qs(H:Hp)(row:List Int)(Q:VK):Prop:=∀p H',H p=none ->ae H H' ->H' p=some (.aD (row.map V.int)) ->Q (.ref p) H'
def Ho(K:aE):Sp:=λ vs H Q _=>∃(ra:Addr)(l:List Int),vs=[.ref ra]/\aP K H ra (l.map V.int)/\l.length<=100000/\qs H (Ap l) Q
theorem V8(F:bi K "stretches" uo f fd)(T:Txt K mg C):bj P w K mg base CX0 1 f fd ["runners"] (Ho K):=by
 refine F.ok ["runners","told","k","runner"] λ b_ A aA s H vs Q E hr h nd=>?_
 obtain⟨ra,l,rfl,hl,h5,k⟩:=h;refine⟨_,ab (bg (i:=1) nd rfl (aH rfl) (a_ il))
  (ab (ee eY rfl (zZ rfl (T.bu _ zq_dk) (aO (pv 0))) (sC rfl (eU (aU (i:=2) nd rfl (aH rfl)) (eU (aU (i:=3) nd rfl (aH rfl)) oS)))
   (af (br (PW.pt (qd (aI kZ (pv 2) am (aR _)) (lI (aI dM (pv 3) (bK be (pv 0) (bG gU (pv 2) am) (λ _ _=>rfl)) (aR _)))))
    (af (zI (pv 1) (F6 zM am) wq am vN qM))
    (af (bz (iK jc pJ rL e_ (pv 1) (aO (a_ (bA (pv 3) am)))))))))
  (af (aw (bG vZ (a_ (aO (bG lJ (aY aW (by rfl) (T.bu _ zq_dk) eX (aO (pv 1))) am))) (pv 1))))),?_⟩
 try dsimp only [bx,Cx.dJ]
 refine⟨zq_dc,λ tp pw=>?_⟩;refine⟨_,rfl,ra,_,rfl,ae.seq (ae.new pw) hl,Cj (xs:=l.map V.int) (λ i σ H'=>ae H H'/\H' tp=some (.aD ((df l i).map V.int))/\∃x y,σ=[some (.ref ra),some (.ref tp),x,y]) ⟨ae.new pw,aa,⟨_,_,rfl⟩⟩ (λ i σ H' _ p=>ae.seq p.1 hl) (λ i x Tp σ H' hx p hT=>?_) (λ σ H' p=>?_)⟩
 .obtain⟨sh,ht,⟨u1,u2,rfl⟩⟩:=p;have jF:i<l.length:=by
   have:=(gM.mp hx).1;rwa[ak]at this
  have hx':x=.int (l.getD i 0):=by
   rw[aT,ay jF]at hx;rw[aG,ay jF];exact(cT hx).symm
  subst hx';obtain⟨ln,nn⟩:=qr l i;have uw:ae H (aS H' Tp (.fc [.int (i:Nat),.int (l.getD i 0)])):=sh.trans (ae.new hT);have pM:aS H' Tp (.fc [.int (i:Nat),.int (l.getD i 0)]) tp=some (.aD ((df l i).map V.int)):=by
   rw[ag (aM ht hT)];exact ht
  have fU:∀(H2:Hp)(o:HO),ae H H2 ->ae H (aS H2 tp o):=λ H2 o s2 b u e=>by
   rw[ag (aM e pw)];exact s2 b u e
  have Xx:df l (i+1)=if 0<i/\l.getD i 0=l.getD (i -1) 0 then wS (df l i)else df l i++[l.getD i 0,1]:=rfl
  refine⟨Tp,_,rfl,e9.of aa,rfl,_,_,rfl,_,_,rfl,rfl,?_⟩;refine⟨_,rfl,_,_,rfl,rfl,_,rfl,?_⟩;have new:df l (i+1)=df l i++[l.getD i 0,1] ->∀H3:Hp,ae H H3 ->H3 tp=some (.aD ((df l i).map V.int)) ->∀q,H3 q=none ->ae H (aS (aS H3 q (.aD [.int (l.getD i 0),.int 1])) tp (.aD ((df l i).map V.int++[.int (l.getD i 0),.int 1])))/\aS (aS H3 q (.aD [.int (l.getD i 0),.int 1])) tp (.aD ((df l i).map V.int++[.int (l.getD i 0),.int 1])) tp=some (.aD ((df l (i+1)).map V.int)):=λ e H3 s3 h3 q hq=>by
   refine⟨fU _ _ (s3.trans (ae.new hq)),?_⟩;rw[aa,e,dZ];rfl
  by_cases h1:0<i
  .refine gk (bO (show(0:Int)<((i:Nat):Int) by omega)) ?_;have e1:(((i:Nat):Int) -1)=((i -1:Nat):Int):=by omega
   refine⟨_,rfl,_,rfl,_,rfl,_,_,rfl,rfl,ra,_,_,_,rfl,rfl,ae.seq uw hl,(by rw[e1];exact cA ah),rfl,_,rfl,?_⟩;rw[gf];by_cases h2:l.getD i 0=l.getD (i -1) 0
   .refine gk (bO h2) ?_;rw[au ⟨h1,h2⟩]at Xx;have hp:0<(df l i).length:=Mw.mpr (nn h1);refine⟨_,rfl,_,rfl,tp,_,_,_,rfl,rfl,aP.of pM,Hm (nn h1),_,_,rfl,rfl,tp,_,_,_,rfl,rfl,pM,Na (by rw[ak];exact hp),?_⟩;refine⟨fU _ _ uw,?_,⟨_,_,rfl⟩⟩;rw[aa,Xx];unfold wS;rw[G9,ak]
   .refine gg (gh h2) ?_;rw[ao (λ z=>h2 z.2)]at Xx;refine⟨_,rfl,.inl ⟨rfl,_,aP.of pM⟩,_,rfl,eM,λ q hq=>?_⟩;refine⟨tp,q,_,_,rfl,rfl,(by rw[ag (aM pM hq)];exact pM),aa,(by rw[ak];show _+2<=2^24;omega),?_⟩;obtain⟨n1,n2⟩:=new Xx _ uw pM q hq;exact⟨n1,n2,⟨_,_,rfl⟩⟩
  .refine gg (gh (show¬(0:Int)<((i:Nat):Int) by omega)) ?_;rw[ao (λ z=>h1 z.1)]at Xx;refine gg rfl ?_;refine⟨_,rfl,.inl ⟨rfl,_,aP.of pM⟩,_,rfl,eM,λ q hq=>?_⟩;refine⟨tp,q,_,_,rfl,rfl,(by rw[ag (aM pM hq)];exact pM),aa,(by rw[ak];show _+2<=2^24;omega),?_⟩;obtain⟨n1,n2⟩:=new Xx _ uw pM q hq;exact⟨n1,n2,⟨_,_,rfl⟩⟩
 .obtain⟨sh,ht,⟨u1,u2,rfl⟩⟩:=p;rw[ak]at ht;obtain⟨ln,_⟩:=qr l l.length;refine⟨_,rfl,tp,_,rfl,.inl (aP.of ht),_,_,rfl,rfl,⟨zq_dc,zq_dc⟩,bE,λ q hq=>?_⟩;refine⟨_,rfl,q,tp,_,_,rfl,rfl,aa,(by rw[ag (aM ht hq)];exact ht),(by rw[ak];show 1+_<=2^24;omega),λ r sU=>?_⟩;have hHr:H r=none:=ae.bN (sh.trans (ae.new hq)) sU;refine k r _ hHr ((sh.trans (ae.new hq)).trans (ae.new sU)) ?_;rw[aa];unfold Ap;rw[ak];rfl
end
end JS
namespace JS
open Vbtkad
theorem CT(n lo hi:Int):bC n (lo,hi)=isIn n lo hi:=rfl
def sn:List (Option Nat×Nat) ->Option Nat ->List (Option Nat×Nat)
 |[],x=>[(x,1)]
 |[(b,n)],x=>if b=x then [(b,n+1)]else [(b,n),(x,1)]
 |e::e'::t,x=>e::sn (e'::t) x
theorem CU(a:Option Nat)(r:List (Option Nat)):stretches (a::r)=match stretches r with|(b,n)::l=>if a=b then(b,n+1)::l else(a,1)::(b,n)::l|[]=>[(a,1)]:=rfl
theorem wT(x:Option Nat):∀r:List (Option Nat),stretches (r++[x])=sn (stretches r) x
 |[]=>rfl
 |a::r=>by
  rw[TY,CU,wT x r,CU];cases e:stretches r with
  |nil=>
   dsimp only[sn];by_cases h:a=x
   .rw[au h,au h,h]
   .rw[ao h,ao h]
  |cons b t=>
   obtain⟨b,n⟩:=b;cases t with
   |nil=>
    dsimp only[sn];by_cases h:a=b
    .rw[au h];by_cases h2:b=x
     .rw[au h2];dsimp only[sn];rw[au h,au h2]
     .rw[ao h2];dsimp only[sn];rw[au h,ao h2]
    .rw[ao h];by_cases h2:b=x
     .rw[au h2];dsimp only[sn];rw[ao h,au h2]
     .rw[ao h2];dsimp only[sn];rw[ao h,ao h2]
   |cons c t=>
    dsimp only[sn];by_cases h:a=b
    .rw[au h,au h];rfl
    .rw[ao h,ao h];rfl
def E1(s:List (Option Nat×Nat)):List Int:=s.flatMap λ e=>[whoNumber e.1,(e.2:Int)]
theorem lz(e:Option Nat×Nat)(s:List (Option Nat×Nat)):E1 (e::s)=whoNumber e.1::(e.2:Int)::E1 s:=rfl
theorem CV:∀s,(E1 s).length=2*s.length
 |[]=>rfl
 |e::s=>by rw[lz,iI,iI,CV s,iI];omega
theorem zf{a:Int}{t:List Int}(h:t≠[]):wS (a::t)=a::wS t:=by
 unfold wS;have hp:=Mw.mpr h;obtain⟨k,hk⟩:∃k,t.length=k+1:=⟨t.length -1,ah⟩;rw[iI,hk];show(a::t).set (k+1) ((a::t).getD (k+1) 0+1)=a::t.set k (t.getD k 0+1);rw[List.set_cons_succ];rfl
def rN:List (Option Nat×Nat) ->Option (Option Nat)
 |[]=>none
 |[(b,_)]=>some b
 |_::e'::t=>rN (e'::t)
theorem CW(x:Option Nat):∀s,rN (sn s x)=some x
 |[]=>rfl
 |[(b,n)]=>by
  dsimp only[sn];by_cases h:b=x
  .rw[au h];exact congrArg some h
  .rw[ao h];rfl
 |e::e'::t=>by
  dsimp only[sn];have ih:=CW x (e'::t);cases q:sn (e'::t) x with
  |nil=>rw[q]at ih;cases ih
  |cons c u=>
   rw[q]at ih;exact ih
theorem Hq(x:Option Nat):∀s,E1 (sn s x)=if rN s=some x then wS (E1 s)else E1 s++[whoNumber x,1]
 |[]=>rfl
 |[(b,n)]=>by
  dsimp only[sn];by_cases h:b=x
  .rw[au h,au (show rN [(b,n)]=some x from congrArg some h)];rfl
  .rw[ao h,ao (show¬rN [(b,n)]=some x from λ z=>h (cT z))];rfl
 |e::e'::t=>by
  dsimp only[sn];rw[lz,Hq x (e'::t)];by_cases h:rN (e'::t)=some x
  .rw[au h,au (show rN (e::e'::t)=some x from h),lz e,zf aL,zf (by rw[lz];simp)]
  .rw[ao h,ao (show¬rN (e::e'::t)=some x from h),lz e];rfl
theorem Rj{x y:Option Nat}(h:whoNumber x=whoNumber y):x=y:=by
 cases x<;>cases y<;>simp only[whoNumber]at h
 .rfl
 .omega
 .omega
 .congr 1;omega
theorem Hr(w:List (Option Nat)):∀k,k<=w.length ->df (w.map whoNumber) k=E1 (stretches (w.take k))
 |0,_=>rfl
 |k+1,h=>by
  have hk:k<w.length:=by omega
  have et:w.take (k+1)=w.take k++[w[k]]:=by
   rw[mz,ay hk];rfl
  have gd:∀i (hi:i<w.length),(w.map whoNumber).getD i 0=whoNumber w[i]:=λ i hi=>by
   rw[aG,aT,ay hi];rfl
  show(if 0<k/\(w.map whoNumber).getD k 0=(w.map whoNumber).getD (k -1) 0 then wS (df (w.map whoNumber) k)else df (w.map whoNumber) k++[(w.map whoNumber).getD k 0,1])=_;rw[Hr w k ah,et,wT,Hq,gd k hk];by_cases h0:0<k
  .obtain⟨j,rfl⟩:∃j,k=j+1:=⟨k -1,ah⟩;have hj:j<w.length:=by omega
   have et2:w.take (j+1)=w.take j++[w[j]]:=by
    rw[mz,ay hj];rfl
   have lk:rN (stretches (w.take (j+1)))=some w[j]:=by rw[et2,wT,CW]
   rw[lk,show j+1 -1=j from rfl,gd j hj];by_cases e:w[j+1]=w[j]
   .rw[au ⟨h0,congrArg whoNumber e⟩,au (congrArg some e.symm)]
   .rw[ao (λ z=>e (Rj z.2)),ao (λ z=>e (cT z).symm)]
  .have:k=0:=by omega
   subst this;rw[ao (λ z=>h0 z.1)];rfl
theorem sY(w:List (Option Nat)):Ap (w.map whoNumber)=stretchRow w:=by
 unfold Ap stretchRow;rw[ak,Hr w _ (ci _),km,CV];show(((2*(stretches w).length:Nat):Int)/2)::_=_;have:(((2*(stretches w).length:Nat):Int)/2)=((stretches w).length:Int):=by omega
 rw[this];rfl
theorem Nb(row:List Int):jW row=partsOk row:=by
 unfold jW partsOk;by_cases hl:1<=row.length/\row.length<=12
 .have h1:bC (row.length:Int) (1,12)=true:=by
   unfold bC;simp only[bq,bc];omega
  rw[h1,bO hl];have ha:row.all iE=row.all λ n=>isIn n (-100) 50&&n !=0:=by
   congr 1
   funext n
   unfold iE;rw[CT];by_cases h:n=0
   .rw[bO h];subst h;rfl
   .rw[gh h];have:(n !=0)=true:=bne_iff_ne.mpr h;rw[this];simp
  have hh:row.headD 0=row.getD 0 0:=by cases row<;>rfl
  have Aq:row.getLastD 0=row.getD (row.length -1) 0:=by
   rw[aG,<-TX,aaG]
  rw[ha,hh,Aq];cases ib:row.all λ n=>isIn n (-100) 50&&n !=0 with
  |false=>rfl
  |true=>
   have nz:∀k (hk:k<row.length),row[k]≠0:=λ k hk z=>by
    have:=fG.mp ib _ (gH hk);rw[z]at this;cases this
   have hz:((bf (row.length -1)).all (oq row))=(row.zip (row.drop 1)).all λ e=>decide (0<e.1)||decide (0<e.2):=by
    rw[kH,fG,fG];have aaH:∀k (hk:k+1<row.length),oq row k=(decide (0<row[k])||decide (0<row[k+1])):=λ k hk=>by
     unfold oq;rw[aG,aG,ay hk,ay (show k<row.length by omega)];show(!(decide (row[k]<0)&&decide (row[k+1]<0)))=_;have n1:=nz k ah;have n2:=nz (k+1) hk;rw[kH];simp only[GA,Bool.and_eq_false_iff,MQ,lc,bc];omega
    constructor
    .intro h e he;obtain⟨k,hk,rfl⟩:=gG he;have gj:k+1<row.length:=by
      rw[GG,mj]at hk;omega
     have:=h k (gB.mpr ah);rw[aaH k gj]at this;rw[CM,List.getElem_drop];have e1:row[1+k]'ah=row[k+1]:=by congr 1;omega
     rw[e1];exact this
    .intro h k hk;have gj:k+1<row.length:=by
      have:=gB.mp hk;omega
     rw[aaH k gj];have hz:(row.zip (row.drop 1))[k]?=some (row[k],row[k+1]):=by
      rw[GJ];refine⟨ay _,?_⟩;rw[GI,show 1+k=k+1 by omega];exact ay _
     exact h _ (cH hz)
   rw[hz];generalize(row.zip (row.drop 1)).all _=b;generalize row.getD 0 0=u;generalize row.getD (row.length -1) 0=v;show(b&&(decide (0<u)&&decide (0<v)))=(decide (0<u)&&(decide (0<v)&&b));cases b<;>cases decide (0<u)<;>cases decide (0<v)<;>rfl
 .have h1:bC (row.length:Int) (1,12)=false:=by
   unfold bC;cases q:(decide ((1:Int)<=(row.length:Int))&&decide ((row.length:Int)<=12))with
   |false=>rfl
   |true=>
    simp only[bq,bc]at q;omega
  rw[h1,gh hl];rfl
variable{m:ax}
theorem Ar{g:ax ->Nat ->ax}(h:∀m i,(g m i).now=m.now/\(g m i).who=m.who):∀(l:List Nat)(m:ax),(l.foldl g m).now=m.now/\(l.foldl g m).who=m.who
 |[],_=>⟨rfl,rfl⟩
 |i::l,m=>by
  obtain⟨a,b⟩:=Ar h l (g m i);obtain⟨c,d⟩:=h m i;exact⟨a.trans c,b.trans d⟩
theorem Jg(m:ax):(lifted m).now=m.now/\(lifted m).who=m.who:=by
 unfold lifted;split<;>exact⟨rfl,rfl⟩
theorem E3(m:ax):(arrived m).now=m.now/\(arrived m).who=m.who:=by
 unfold arrived;dsimp only;obtain⟨a,b⟩:=Ar (g:=λ b j=>made b j (jobAt b j)) (λ _ _=>⟨rfl,rfl⟩) ((bf (((sleepers m).filter λ j=>decide ((jobAt m j).wake<=m.now)).foldl woken m).jobs.length).filter λ j=>(jobAt (((sleepers m).filter λ j=>decide ((jobAt m j).wake<=m.now)).foldl woken m) j).stand==.coming&&decide ((jobAt (((sleepers m).filter λ j=>decide ((jobAt m j).wake<=m.now)).foldl woken m) j).come<=(((sleepers m).filter λ j=>decide ((jobAt m j).wake<=m.now)).foldl woken m).now)) (((sleepers m).filter λ j=>decide ((jobAt m j).wake<=m.now)).foldl woken m);obtain⟨c,d⟩:=Ar (g:=woken) (λ _ _=>⟨rfl,rfl⟩) ((sleepers m).filter λ j=>decide ((jobAt m j).wake<=m.now)) m;exact⟨a.trans c,b.trans d⟩
theorem Jh(W:jz m):jz (lifted (arrived m)):=by
 obtain⟨_,W1⟩:=CI (A:=⟨0,0,0,[],[]⟩) W;obtain⟨_,W2⟩:=CJ (A:=⟨0,0,0,[],[]⟩) W1;exact(CL (A:=⟨0,0,0,[],[]⟩) W2).2
theorem Nc(W:jz m):(tick m).now=m.now+1:=by
 have e:(tick m).now=(match chosen (lifted (arrived m))with|none=>({lifted (arrived m)with who:=(lifted (arrived m)).who++[none],current:=none}:ax)|some j=>ranOne (lifted (arrived m)) j).now+1:=rfl;rw[e];have W3:=Jh W;have n3:(lifted (arrived m)).now=m.now:=(Jg _).1.trans (E3 m).1;cases hc:chosen (lifted (arrived m))with
 |none=>exact congrArg (·+1) n3
 |some j=>
  obtain⟨hj,hr⟩:=rH W3 hc;exact congrArg (·+1) ((Hk (A:=⟨0,0,0,[],[]⟩) W3 hj hr).2.2.1.trans n3)
theorem iQ:∀(n:Nat){m:ax},jz m ->jz (ticks n m)/\(ticks n m).now=m.now+n
 |0,m,W=>⟨W,rfl⟩
 |n+1,m,W=>by
  obtain⟨a,b⟩:=iQ n (CQ (A:=⟨0,0,0,[],[]⟩) W).2;refine⟨a,?_⟩;show(ticks n (tick m)).now=_;rw[b,Nc W];omega
theorem lX:∀(n:Nat)(m:ax),ticks (n+1) m=tick (ticks n m)
 |0,_=>rfl
 |n+1,m=>lX n (tick m)
end JS
namespace JS
open PySem PySem.Spec PyProof.Rows L2
theorem CY{X:Cx}:uT X (binaryOp .FloorDiv) (rI (λ _ j=>0<j/\j.natAbs.log2<9000) λ i j=>.int (i/j)):=opI λ i j _ _ _ _ _ hc q=>by
 have h1:(0:Int)<j:=hc.1;exact floordiv_int ah (by rw[acp i ah];exact q) (.inl (PyProof.noPylong_of_log2 hc.2))
section
variable{P:dz}{w:c9}{K:aE}{mg:Str ->Option aq}{base:Heap}{C:CA}{f:Addr}{fd:bp}
def Nd:Sp:=λ vs H Q _=>∃a b:Nat,vs=[.int a,.int b]/\Q (.int (eW a b:Nat)) H
def mu1:L2.St ->Nat
 |[_,some (.int b),_]=>b.toNat
 |_=>0
theorem V9(F:bi K "greatest_divisor" jK f fd):bj P w K mg base CX0 1 f fd ["one","other"] Nd:=by
 refine F.ok ["one","other","rest"] λ b_ A aA s H vs Q E hr h nd=>?_
 obtain⟨a,b,rfl,k⟩:=h;refine⟨_,ab (nu eY (aI kZ (pv 1) am (aR _)) (ab (bg (i:=2) nd rfl (aH rfl) (bG Ed (pv 0) (pv 1))) (ab (bg (i:=0) nd rfl (aH rfl) (pv 1)) (af (bg (i:=1) nd rfl (aH rfl) (pv 2))))))
  (af (aw (pv 0))),?_⟩
 try dsimp only [bx,Cx.dJ]
 refine Bt (λ σ H'=>H'=H/\∃(c d:Nat)(x:Option V),σ=[some (.int c),some (.int d),x]/\eW c d=eW a b) (λ σ _=>mu1 σ) ⟨rfl,a,b,none,rfl,rfl⟩ (λ σ H' p=>?_) (λ σ H' Q1 Q2 hq hc=>?_)
 .obtain⟨rfl,c,d,x,rfl,hg⟩:=p;refine⟨_,rfl,_,_,rfl,rfl,_,rfl,?_⟩;by_cases h0:0<d
  .refine gk (bO (show(0:Int)<(d:Int) by omega)) ?_;refine⟨_,rfl,_,rfl,_,_,rfl,rfl,(show(0:Int)<(d:Int) by omega),_,rfl,_,rfl,⟨rfl,d,c % d,_,rfl,?_⟩,?_⟩
   .rw[aaI,<-Nat.gcd_rec,aaI];exact hg
   .show(((c:Nat):Int) % (d:Int)).toNat<((d:Nat):Int).toNat;rw[<-TV,k9,k9];exact TZ _ h0
  .refine gg (gh (show¬(0:Int)<(d:Int) by omega)) ?_;have:d=0:=by omega
   subst this;rw[Nat.gcd_zero_right]at hg;refine⟨_,rfl,?_⟩;rw[hg];exact k
 .obtain⟨v,e,i,j,e1,e2,b1,e3,q⟩:=hc;exact⟨v,e,i,j,e1,e2,b1,e3,hq _ _ q⟩
def Nf:Sp:=λ vs H Q _=>∃n:Nat,vs=[.int n]/\qs H [((n/eW n eN:Nat):Int),((eN/eW n eN:Nat):Int)] Q
theorem V_(F:bi K "pass_in_lowest_terms" g6 f fd)(T:Txt K mg C)(D1:cF P w K mg base "greatest_divisor" ["one","other"] 1 Nd):bj P w K mg base CX0 2 f fd ["pass_parts"] Nf:=by
 refine F.ok ["pass_parts","divisor"] λ b_ A aA s H vs Q E hr h nd=>?_
 obtain⟨n,rfl,k⟩:=h;refine⟨_,ab (bg (i:=1) nd rfl (aH rfl) (al D1 hr rfl (bA (pv 0) (cN (T.i (n:=69720375229712477164533808935312303556800) zq_dk) rfl))))
  (af (aw (a_ (bA (bG CY (pv 0) (pv 1)) (bG CY (cN (T.i (n:=69720375229712477164533808935312303556800) zq_dk) rfl) (pv 1)))))),?_⟩
 try dsimp only [bx,Cx.dJ]
 have hu:(69720375229712477164533808935312303556800:Int)=((eN:Nat):Int):=rfl;have gp:0<eW n eN:=aad _ zq_dc;have gl:eW n eN<=eN:=Nat.gcd_le_right _ zq_dc;have lg:(((eW n eN:Nat):Int)).natAbs.log2<9000:=by
  rw[Int.natAbs_natCast];have h2:(eW n eN).log2<200:=(Nat.log2_lt ah).mpr (li gl zq_dc);omega
 have hc:(0:Int)<((eW n eN:Nat):Int)/\(((eW n eN:Nat):Int)).natAbs.log2<9000:=⟨ah,lg⟩;refine⟨_,rfl,n,eN,rfl,?_⟩;refine⟨_,rfl,_,rfl,_,_,rfl,rfl,hc,_,rfl,_,_,rfl,rfl,hc,eM,λ q hq=>?_⟩;refine k q _ hq (ae.new hq) ?_;rw[aa];rfl
structure jr(C:CA)(H:Hp)(A:MA)(m:ax):Prop where
 ok:lF C H A.ma (bw A m)
 wf:jz m
 tb:cj C H
 lj:A.js.length=m.jobs.length
 lp:A.ps.length=m.jobs.length
structure fP(C:CA)(A A':MA)(H H':Hp):Prop where
 keep:∀b o,H b=some o ->¬jS C A b ->b∉C.cE.map (·.1) ->H' b=some o
 bu:∀b,H' b=none ->H b=none
 foot:∀b,jS C A' b ->jS C A b\/H b=none
theorem fP.refl{C:CA}{A:MA}{H:Hp}:fP C A A H H:=⟨λ _ _ e _ _=>e,λ _ e=>e,λ _ h=>.inl h⟩
theorem fP.trans{C:CA}{A A1 A2:MA}{H H1 H2:Hp}(a:fP C A A1 H H1)(b:fP C A1 A2 H1 H2):fP C A A2 H H2:=by
 refine⟨λ c o e n1 n2=>b.keep c o (a.keep c o e n1 n2) (λ z=>?_) n2,λ c e=>a.bu c (b.bu c e),λ c h=>?_⟩
 .rcases a.foot c z with q|q
  .exact n1 q
  .rw[q]at e;cases e
 .rcases b.foot c h with q|q
  .exact a.foot c q
  .exact .inr (a.bu c q)
theorem fP.same{C:CA}{A:MA}{H H':Hp}(s:ae H H'):fP C A A H H':=⟨λ b o e _ _=>s b o e,λ _ e=>ae.bN s e,λ _ h=>.inl h⟩
theorem cj.same{C:CA}{H H':Hp}(h:cj C H)(s:ae H H'):cj C H':=λ q hq=>by
 obtain⟨tr,a1,a2⟩:=h q hq;exact⟨tr,s _ _ a1,λ t ht=>s _ _ (a2 t ht)⟩
theorem jr.same{C:CA}{H H':Hp}{A:MA}{m:ax}(h:jr C H A m)(s:ae H H'):jr C H' A m:=⟨h.ok.keep λ b o e _=>s b o e,h.wf,h.tb.same s,h.lj,h.lp⟩
theorem jA{A:MA}{m:ax}(h:A.js.length=m.jobs.length):bo (bw A m)=A.js:=by
 unfold bo bw;refine kn (by simp[h]) λ i h1 h2=>?_
 show((m.jobs.mapIdx (eF A)).map (·.a))[i]=_;rw[fW,aan];show A.js.getD i 0=A.js[i];rw[aG,ay h2];rfl
theorem jr.Ji{C:CA}{H:Hp}{A:MA}{m:ax}(h:jr C H A m){b:Addr}(hb:Ft C A.ma A.ra (bo (bw A m)) b):H b≠none:=by
 rcases hb with q|q|q|q
 .obtain⟨d,e⟩:=h.ok.dA;rw[q,e];intro z;cases z
 .have e:=h.ok.run;intro z;rw[q,show A.ra=(bw A m).m.aB from rfl,e]at z;cases z
 .obtain⟨x,hx,rfl⟩:=cY.mp q;obtain⟨d,e⟩:=h.ok.ja hx;rw[e];intro z;cases z
 .obtain⟨x,hx,rfl⟩:=cY.mp q;obtain⟨ps,e⟩:=(h.tb x hx).is;rw[e];intro z;cases z
theorem jr.Ng{C:CA}{H H':Hp}{A:MA}{m:ax}(h:jr C H A m)(O:lF C H' A.ma (rD (bw A m)))(T:cj C H')(F:mU C A.ma (bw A m).m.aB (bo (bw A m)) H H')(ad:bo (rD (bw A m))=bo (bw A m)):jr C H' A (wU m)/\fP C A A H H':=by
 obtain⟨e,W⟩:=CQ (A:=A) h.wf;have hl:(wU m).jobs.length=m.jobs.length:=by
  rw[e]at ad;have:=congrArg nA ad;unfold bo at this;rw[ak,ak,bM,bM]at this;exact this
 rw[e]at O ad;have M':jr C H' A (wU m):=⟨O,W,T,h.lj.trans hl.symm,h.lp.trans hl.symm⟩;refine⟨M',λ b o eb n1 n2=>F b o eb λ z=>?_,λ b eb=>?_,λ b hb=>.inl hb⟩
 .rcases z with q|q|q|q
  .exact n1 (.inl q)
  .exact n1 (.inr (.inr (.inl q)))
  .rw[jA h.lj]at q;exact n1 (.inr (.inr (.inr (.inl q))))
  .exact n2 q
 .cases eq:H b with
  |none=>rfl
  |some o=>
   by_cases z:Ft C A.ma A.ra (bo (bw A m)) b
   .rw[<-ad]at z;exact absurd eb (M'.Ji z)
   .rw[F b o eq z]at eb;cases eb
def dg(C:CA)(k:Nat)(g:ax ->List Int ->List Int ->ax×List Int):Sp:=λ vs H Q _=>∃(A:MA)(m:ax)(na ra:Addr)(ns row:List Int),vs=[.ref A.ma,.ref na,.ref ra]/\jr C H A m/\H na=some (.aD (ns.map V.int))/\H ra=some (.aD (row.map V.int))/\¬jS C A na/\¬jS C A ra/\ns.length=k/\m.now<=3000/\row.length<=100/\
 ∀p H' A',A'.ma=A.ma ->jr C H' A' (g m ns row).1 ->fP C A A' H H' ->H p=none ->¬jS C A' p ->H' p=some (.aD ((g m ns row).2.map V.int)) ->Q (.ref p) H'
theorem fP.aaJ{A A':MA}{H H':Hp}{b:Addr}{o:HO}(f:fP C A A' H H')(h:H b=some o)(n:¬jS C A b):¬jS C A' b:=λ z=>by
 rcases f.foot b z with q|q
 .exact n q
 .rw[h]at q;cases q
theorem fP.new{A A':MA}{H H':Hp}{p:Addr}{o:HO}(f:fP C A A' H H')(h:H' p=none):fP C A A' H (aS H' p o):=f.trans (fP.same (ae.new h))
theorem bL{A:MA}{m:ax}{H:Hp}(M:jr C H A m){p:Addr}(h:H p=none):¬jS C A p:=λ z=>by
 rcases z with q|q|q|q|q
 .obtain⟨d,e⟩:=M.ok.dA;rw[q,e]at h;cases h
 .have e:=M.ok.aD;rw[q,show A.la=(bw A m).m.jobs from rfl,e]at h;cases h
 .have e:=M.ok.run;rw[q,show A.ra=(bw A m).m.aB from rfl,e]at h;cases h
 .rw[<-jA M.lj]at q;obtain⟨x,hx,rfl⟩:=cY.mp q;obtain⟨d,e⟩:=M.ok.ja hx;rw[e]at h;cases h
 .obtain⟨i,hi,rfl⟩:=gG q;have uV:i<m.jobs.length:=by rw[<-M.lp];exact hi
  have hx:at_ (bw A m) i∈(bw A m).js:=cH (fO (by rw[bM];exact uV))
  obtain⟨_,e,_⟩:=M.ok.at_ _ hx;rw[fg uV,show(eF A i (aX m i)).j.parts=A.ps.getD i 0 from rfl,aG,ay hi]at e;rw[show A.ps[i]=(some A.ps[i]).getD 0 from rfl,e]at h;cases h
theorem Nh{xs:List V}{k:Nat}(h:k<=xs.length):qL xs (some (k:Int)) none=xs.drop k:=by
 unfold qL;rw[HT.vq,HT.BC,CZ h];rw[nG (by rw[mj];exact ci _)]
def ot(m:ax)(ns row:List Int):ax×List Int:=
 if c7 m (.ticks (ns.getD 0 0))=true then cI m (.ticks (ns.getD 0 0))else(m,[-2])
theorem fh{ns:List Int}(h:ns.length=1):ns=[ns.getD 0 0]:=by
 match ns,h with
 |[a],_=>rfl
theorem cQ.i(U:cQ K mg){x:Str}{n:Int}(h:(x,n)∈aaE):∃u,mg x=some u/\bT (.int n) u:=by
 obtain⟨t,e⟩:=U.int _ h;exact⟨_,e,t,rfl⟩
theorem Ni(F:bi K "ticks" GX f fd)(T:Txt K mg C)(U:cQ K mg)(D1:Jf P w K mg base)(D2:cF P w K mg base "tick" [b8] 9 (ET C))(D3:cF P w K mg base "stretches" ["runners"] 1 (Ho K)):
  bj P w K mg base CX0 10 f fd [b8,fb,c_] (dg C 1 ot):=by
 refine F.ok [b8,fb,c_,"before","k"] λ b_ A0 aA s H vs Q E hr h nd=>?_
 obtain⟨A,m,na,ra,ns,row,rfl,M,iR,iP,Jj,Jk,bH,uX,mW,k⟩:=h;obtain⟨tr,yf,hR⟩:=U.row ("TICKS_RANGES",[(1,200)]) zq_dk;have rc:=fh bH;refine⟨_,ab (br (dw (cx (al D1 (hr.bI zq_dc) rfl (bA (pv 1) (b9 (v:=.ref tr) rfl yf rfl))))) (af (aw (a_ (aO (cN (cQ.i U (n:=-2) zq_dk) rfl))))) aK)
  (ab (br (aI kZ (bG eh (ai (pv 0) rfl) (bK be (pv 1) am (λ _ _=>rfl))) (cN (cQ.i U (n:=3000) zq_dk) rfl) (aR _)) (af (aw (a_ (aO (cN (cQ.i U (n:=-5) zq_dk) rfl))))) aK)
  (ab (bg (i:=3) nd rfl (aH rfl) (ai (pv 0) rfl))
  (ab (ee eY rfl (oT rfl (T.bu _ zq_dk) (aO (bK be (pv 1) am (λ _ _=>rfl)))) (aU (i:=4) nd rfl (aH rfl)) (af (bz (al D2 hr rfl (aO (pv 0))))))
  (af (aw (al D3 (hr.bI zq_dc) rfl (aO (nE qN (ai (pv 0) rfl) (j8 (pv 3)) Gm)))))))),?_⟩
 try dsimp only [bx,Cx.dJ]
 refine⟨_,rfl,na,tr,ns,[(1,200)],rfl,aP.of iR,hR H,bH,λ H1 s1=>?_⟩;have hw:withinAll ns [(1,200)]=bJ (ns.getD 0 0) 1 200:=by
  rw[rc];show(bC (ns.getD 0 0) (1,200)&&true)=_;rw[kq];rfl
 have M1:=M.same s1;have g9:=s1 _ _ iR;obtain⟨d1,qC⟩:=M1.ok.dA;refine⟨_,rfl,?_⟩;rw[hw];have i9:c7 m (.ticks (ns.getD 0 0))=bJ (ns.getD 0 0) 1 200:=rfl;cases hb:bJ (ns.getD 0 0) 1 200 with
 |false=>
  have hg:ot m ns row=(m,[-2]):=by unfold ot;rw[i9,hb];rfl
  rw[hg]at k;refine⟨bE,λ p hp=>?_⟩;exact k p _ A rfl (M1.same (ae.new hp)) (fP.new (fP.same s1) hp) (ae.bN s1 hp) (bL M1 hp) (by rw[aa];rfl)
 |true=>
 have hg:ot m ns row=cI m (.ticks (ns.getD 0 0)):=by unfold ot;rw[i9,hb];rfl
 rw[hg]at k;obtain⟨b1,b2⟩:1<=ns.getD 0 0/\ns.getD 0 0<=200:=by
  unfold bJ at hb;simpa using hb
 obtain⟨n,hn⟩:∃n:Nat,ns.getD 0 0=n:=⟨(ns.getD 0 0).toNat,ah⟩;have jY:ml (ns.map V.int) (0:Int)=some (.int (n:Int)):=by
  rw[<-hn];exact cA (k:=0) ah
 refine⟨_,rfl,A.ma,C.cM,d1,_,_,rfl,qC,T.iX,T.nM _ zq_dk,MV.get _ (k:=4) rfl rfl,_,rfl,na,_,_,_,rfl,rfl,aP.of g9,jY,_,_,rfl,rfl,_,_,rfl,rfl,_,rfl,?_⟩;have hd:cI m (.ticks (ns.getD 0 0))=if 3000<m.now+n then(m,[-5])else(fj n m,Hs ((fj n m).who.drop m.who.length)):=by
  rw[hn];show(if wV<m.now+((n:Nat):Int).toNat then _ else _)=_;rw[k9];rfl
 rw[hd]at k;by_cases C0:3000<m.now+n
 .refine gk (bO (show(3000:Int)<(m.now:Int)+(n:Int) by omega)) ?_;rw[au C0]at k;refine⟨bE,λ p hp=>?_⟩;exact k p _ A rfl (M1.same (ae.new hp)) (fP.new (fP.same s1) hp) (ae.bN s1 hp) (bL M1 hp) (by rw[aa];rfl)
 .refine gg (gh (show¬(3000:Int)<(m.now:Int)+(n:Int) by omega)) ?_;rw[ao C0]at k;refine⟨_,rfl,A.ma,C.cM,d1,_,_,rfl,qC,T.iX,T.nM _ zq_dk,MV.get _ (k:=4) rfl rfl,?_⟩;refine⟨_,rfl,na,_,_,_,rfl,rfl,aP.of g9,jY,_,rfl,ah,ah,?_⟩;rw[k9];refine kY (lo:=0) (n:=n) (λ i σ H2=>jr C H2 A (fj i m)/\fP C A A H H2/\∃x,σ=[some (.ref A.ma),some (.ref na),some (.ref ra),some (.int (m.now:Int)),x]) ⟨M1,fP.same s1,⟨_,rfl⟩⟩ (λ i σ H2 hi p=>?_) (λ σ H2 p=>?_)
  .obtain⟨M2,f2,⟨x,rfl⟩⟩:=p;obtain⟨W2,nw⟩:=iQ i M.wf;refine⟨_,rfl,A.ma,_,rfl,M2.ok,Ak W2,M2.tb,?_,λ H3 O3 T3 F3 a3=>?_⟩
   .show((fj i m).who.map fJ).length<100000;rw[ak,W2.who,nw];omega
   .obtain⟨M3,f3⟩:=M2.Ng O3 T3 F3 a3;rw[<-lX]at M3;exact⟨M3,f2.trans f3,⟨_,rfl⟩⟩
  .obtain⟨M2,f2,⟨x,rfl⟩⟩:=p;obtain⟨W2,nw⟩:=iQ n M.wf;obtain⟨d2,DQ⟩:=M2.ok.dA;have IW:H2 A.ra=some (.aD (((fj n m).who.map fJ).map V.int)):=M2.ok.run;refine⟨_,rfl,A.ma,C.cM,d2,_,_,rfl,DQ,T.iX,T.nM _ zq_dk,MV.get _ (k:=9) rfl rfl,_,rfl,_,rfl,A.ra,_,rfl,aP.of IW,λ q hq=>?_⟩;have Wa:qL (((fj n m).who.map fJ).map V.int) (some (m.now:Int)) none=((((fj n m).who.drop m.who.length).map fJ)).map V.int:=by
    rw[Nh (by rw[ak,ak,W2.who,nw];omega),M.wf.who,C1,C1]
   rw[Wa];refine⟨q,(((fj n m).who.drop m.who.length).map fJ),rfl,aP.of aa,?_,λ p H4 hp s4 h4=>?_⟩
   .rw[ak,mj,W2.who,nw];omega
   .rw[sY]at h4;have sq:=ae.new (o:=.aD ((((fj n m).who.drop m.who.length).map fJ).map V.int)) hq;have fq:=f2.trans (fP.same (sq.trans s4));have ou:H2 p=none:=ae.bN sq hp;exact k p H4 A rfl (M2.same (sq.trans s4)) fq (f2.bu p ou) (bL M2 ou) h4
theorem As{xs:List V}{a n:Nat}(h:a<=xs.length):qL xs (some (a:Int)) (some ((a:Int)+(n:Int)))=(xs.drop a).take n:=by
 unfold qL;rw[show((a:Int)+(n:Int))=((a+n:Nat):Int) by omega,HT.vq,HT.vq,CZ h];by_cases h2:a+n<=xs.length
 .rw[CZ h2];congr 1;omega
 .rw[aaK ah,nG (by rw[mj];exact ci _),nG (by rw[mj];omega)]
theorem Nj{ns:List Int}(h:ns.length=2):ns=[ns.getD 0 0,ns.getD 1 0]:=by
 match ns,h with
 |[a,b],_=>rfl
theorem E4{H:Hp}{t a b:Addr}{x y:Int×Int}(ht:H t=some (.fc [.ref a,.ref b]))(ha:e9 K H a [.int x.1,.int x.2])(hb:e9 K H b [.int y.1,.int y.2]):g8 K H t [x,y]:=
 ⟨[a,b],e9.of ht,rfl,λ i c r h1 h2=>by
  match i,h1,h2 with
  |0,h1,h2=>cases h1;cases h2;exact ha
  |1,h1,h2=>cases h1;cases h2;exact hb
  |n+2,h1,h2=>cases h1⟩
def ow(m:ax)(ns row:List Int):ax×List Int:=
 if c7 m (.trace (ns.getD 0 0) (ns.getD 1 0))=true then cI m (.trace (ns.getD 0 0) (ns.getD 1 0))else(m,[-2])
theorem Nk(F:bi K "trace" GZ f fd)(T:Txt K mg C)(U:cQ K mg)(D1:Jf P w K mg base)(D3:cF P w K mg base "stretches" ["runners"] 1 (Ho K)):
  bj P w K mg base CX0 3 f fd [b8,fb,c_] (dg C 2 ow):=by
 refine F.ok [b8,fb,c_] λ b_ A0 aA s H vs Q E hr h nd=>?_
 obtain⟨A,m,na,ra,ns,row,rfl,M,iR,iP,Jj,Jk,bH,uX,mW,k⟩:=h;obtain⟨tr,yf,hR⟩:=U.pair ("TRACE_LENGTH_RANGE",(0,200)) zq_dk;have rc:=Nj bH;refine⟨_,ab (br (dw (cx (al D1 (hr.bI zq_dc) rfl (bA (pv 1) (fE (bA (fE (bA am (ai (pv 0) rfl))) (b9 (v:=.ref tr) rfl yf rfl))))))) (af (aw (a_ (aO (cN (cQ.i U (n:=-2) zq_dk) rfl))))) aK)
  (af (aw (al D3 (hr.bI zq_dc) rfl (aO (nE qN (ai (pv 0) rfl) (j8 (bK be (pv 1) am (λ _ _=>rfl))) (j8 (bG eh (bK be (pv 1) am (λ _ _=>rfl)) (bK be (pv 1) am (λ _ _=>rfl))))))))),?_⟩
 try dsimp only [bx,Cx.dJ]
 obtain⟨d0,xU⟩:=M.ok.dA;refine⟨_,rfl,_,rfl,A.ma,C.cM,d0,_,_,rfl,xU,T.iX,T.nM _ zq_dk,MV.get _ (k:=4) rfl rfl,eM,λ t1 EZ=>⟨eM,λ t2 pM=>?_⟩⟩;have sa:=ae.new (o:=.fc [.int 0,.int (m.now:Int)]) EZ;have sb:=ae.new (o:=.fc [.ref t1,.ref tr]) pM;have Ht:=sa.trans sb;refine⟨na,t2,ns,[(0,(m.now:Int)),(0,200)],rfl,aP.of (Ht _ _ iR),E4 aa (e9.of (sb _ _ aa)) (hR _),bH,λ H1 Rk=>?_⟩;have s1:=Ht.trans Rk;have hw:withinAll ns [(0,(m.now:Int)),(0,200)]=c7 m (.trace (ns.getD 0 0) (ns.getD 1 0)):=by
  show _=(bJ (ns.getD 0 0) 0 (m.who.length:Int)&&bJ (ns.getD 1 0) 0 200);rw[rc,M.wf.who];show(bC (ns.getD 0 0) (0,(m.now:Int))&&(bC (ns.getD 1 0) (0,200)&&true))=_;rw[kq];rfl
 have M1:=M.same s1;have g9:=s1 _ _ iR;obtain⟨d1,qC⟩:=M1.ok.dA;refine⟨_,rfl,?_⟩;rw[hw];cases hb:c7 m (.trace (ns.getD 0 0) (ns.getD 1 0))with
 |false=>
  have hg:ow m ns row=(m,[-2]):=by unfold ow;rw[hb];rfl
  rw[hg]at k;refine⟨bE,λ p hp=>?_⟩;exact k p _ A rfl (M1.same (ae.new hp)) (fP.new (fP.same s1) hp) (ae.bN s1 hp) (bL M1 hp) (by rw[aa];rfl)
 |true=>
  have hg:ow m ns row=(m,Hs ((m.who.drop (ns.getD 0 0).toNat).take (ns.getD 1 0).toNat)):=by unfold ow;rw[hb];rfl
  rw[hg]at k;obtain⟨⟨b1,b2⟩,b3,b4⟩:(0<=ns.getD 0 0/\ns.getD 0 0<=(m.who.length:Int))/\0<=ns.getD 1 0/\ns.getD 1 0<=200:=by
   have j7:(bJ (ns.getD 0 0) 0 (m.who.length:Int)&&bJ (ns.getD 1 0) 0 200)=true:=hb;unfold bJ at j7;simpa using j7
  obtain⟨a,ha⟩:∃n:Nat,ns.getD 0 0=n:=⟨(ns.getD 0 0).toNat,ah⟩;obtain⟨n,hn⟩:∃n:Nat,ns.getD 1 0=n:=⟨(ns.getD 1 0).toNat,ah⟩;have yg:ml (ns.map V.int) (0:Int)=some (.int (a:Int)):=by
   rw[<-ha];exact cA (k:=0) ah
  have Wb:ml (ns.map V.int) (1:Int)=some (.int (n:Int)):=by
   rw[<-hn];exact cA (k:=1) ah
  have IW:H1 A.ra=some (.aD ((m.who.map fJ).map V.int)):=M1.ok.run;refine⟨_,rfl,A.ma,C.cM,d1,_,_,rfl,qC,T.iX,T.nM _ zq_dk,MV.get _ (k:=9) rfl rfl,_,rfl,na,_,_,_,rfl,rfl,aP.of g9,yg,_,rfl,_,rfl,na,_,_,_,rfl,rfl,aP.of g9,yg,_,rfl,na,_,_,_,rfl,rfl,aP.of g9,Wb,_,_,rfl,rfl,_,rfl,A.ra,_,rfl,aP.of IW,λ q hq=>?_⟩;have Wa:qL ((m.who.map fJ).map V.int) (some (a:Int)) (some ((a:Int)+(n:Int)))=(((m.who.drop a).take n).map fJ).map V.int:=by
   rw[As (by rw[ak,ak];omega)];rw[Hu,Hu,C1,C1]
  rw[Wa];refine⟨q,((m.who.drop a).take n).map fJ,rfl,aP.of aa,?_,λ p H4 hp s4 h4=>?_⟩
  .rw[ak,k7,mj,M.wf.who];omega
  .rw[sY]at h4;have sq:=ae.new (o:=.aD ((((m.who.drop a).take n).map fJ).map V.int)) hq;have st:=s1.trans (sq.trans s4);rw[ha,hn,k9,k9]at k;exact k p H4 A rfl (M.same st) (fP.same st) (ae.bN s1 (ae.bN sq hp)) (bL M1 (ae.bN sq hp)) h4
def aj(A:MA)(j:Nat):Addr:=A.js.getD j 0
theorem jr.job{C:CA}{H:Hp}{A:MA}{m:ax}(h:jr C H A m){j:Nat}(hj:j<m.jobs.length):(bw A m).js[j]?=some (eF A j (aX m j))/\eA C H (aj A j) (bZ j (A.ps.getD j 0) (aX m j)):=by
 have e:(bw A m).js[j]?=some (eF A j (aX m j)):=by
  rw[<-fg hj];exact fO (by rw[bM];exact hj)
 exact⟨e,(h.ok.at_ _ (cH e)).1⟩
theorem jr.QW{C:CA}{H H':Hp}{A:MA}{m m':ax}{j:Nat}{x':jR}(h:jr C H A m)(hj:j<m.jobs.length)(t:dP C H H' A.ma (aj A j) (de A.la A.ra m') (bZ j (A.ps.getD j 0) x'))(hm:m'.jobs=m.jobs.set j x')(hp:x'.parts=(aX m j).parts)(hw:m'.who=m.who)(W:jz m'):
  jr C H' A m'/\fP C A A H H':=by
 obtain⟨e,ja⟩:=h.job hj;have mm:dG C H A.ma (de A.la A.ra m):=h.ok.dA;obtain⟨O,_⟩:=h.ok.QW e t rfl rfl rfl;have eP:({bw A m with m:=de A.la A.ra m',js:=(bw A m).js.set j {eF A j (aX m j)with j:=bZ j (A.ps.getD j 0) x'}}:PM)=bw A m':=by
  have ez:({eF A j (aX m j)with j:=bZ j (A.ps.getD j 0) x'}:PJ)=eF A j x':=by
   show PJ.mk _ _ ((aX m j).parts.map dO)=PJ.mk _ _ (x'.parts.map dO);rw[hp];rfl
  rw[ez];show PM.mk _ ((m.jobs.mapIdx (eF A)).set j (eF A j x')) (m.who.map fJ)=PM.mk _ (m'.jobs.mapIdx (eF A)) (m'.who.map fJ);rw[vA,hm,hw]
 rw[eP]at O;have hl:m'.jobs.length=m.jobs.length:=by rw[hm,i8]
 have i9:aj A j∈A.js:=by
  unfold aj;rw[aG,ay (by rw[h.lj];exact hj)];exact gH _
 refine⟨⟨O,W,h.tb.fr mm ja t,by rw[hl];exact h.lj,by rw[hl];exact h.lp⟩,λ b o eb n1 _=>t.fr b o eb (λ z=>n1 (.inl z)) λ z=>n1 (.inr (.inr (.inr (.inl (z▸i9))))),λ b eb=>?_,λ b hb=>.inl hb⟩;cases q:H b with
 |none=>rfl
 |some o=>
  by_cases z1:b=A.ma
  .obtain⟨d,em⟩:=t.m;rw[z1,em]at eb;cases eb
  .by_cases z2:b=aj A j
   .obtain⟨d,em⟩:=t.j;rw[z2,em]at eb;cases eb
   .rw[t.fr b o q z1 z2]at eb;cases eb
theorem sZ{K:aE}{H:Hp}{t a:Addr}{x:Int×Int}(ht:H t=some (.fc [.ref a]))(ha:e9 K H a [.int x.1,.int x.2]):g8 K H t [x]:=
 ⟨[a],e9.of ht,rfl,λ i c r h1 h2=>by
  match i,h1,h2 with
  |0,h1,h2=>cases h1;cases h2;exact ha
  |n+1,h1,h2=>cases h1⟩
def wW(C:CA):Sp:=λ vs H Q _=>∃(A:MA)(m:ax),vs=[.ref A.ma]/\jr C H A m/\wA H [0,(m.jobs.length:Int) -1] Q
theorem Rl(F:bi K "job_numbers" pU f fd)(T:Txt K mg C):bj P w K mg base CX0 1 f fd [b8] (wW C):=by
 refine F.ok [b8] λ b_ A0 aA s H vs Q E hr h nd=>?_
 obtain⟨A,m,rfl,M,k⟩:=h;obtain⟨d0,xU⟩:=M.ok.dA;refine⟨_,af (aw (fE (bA am (bG gU (aY aW (by rfl) (T.bu _ zq_dk) eX (aO (ai (pv 0) rfl))) am)))),?_⟩
 try dsimp only [bx,Cx.dJ]
 have hl:=M.ok.aD;refine⟨_,rfl,A.ma,C.cM,d0,_,_,rfl,xU,T.iX,T.nM _ zq_dk,MV.get _ (k:=8) rfl rfl,_,_,rfl,.inl (aP.of hl),_,_,rfl,rfl,eM,λ t ht=>?_⟩;rw[ak,bM];exact k t ht
theorem lY(s:Vbtkad.Stand):(decide (((G1 s:Nat):Int)=3)||decide (((G1 s:Nat):Int)=4))=(s==.done||s==.killed):=by cases s<;>rfl
def uy(m:ax)(ns row:List Int):ax×List Int:=
 if c7 m (.kill (ns.getD 0 0))=true then cI m (.kill (ns.getD 0 0))else(m,[-2])
theorem Rm(F:bi K "kill" Mi f fd)(T:Txt K mg C)(U:cQ K mg)(D1:Jf P w K mg base)(D2:cF P w K mg base "job_numbers" [b8] 1 (wW C))(D3:cF P w K mg base "is_over" [dL] 1 (qo C)):
  bj P w K mg base CX0 3 f fd [b8,fb,c_] (dg C 1 uy):=by
 refine F.ok [b8,fb,c_,dL] λ b_ A0 aA s H vs Q E hr h nd=>?_
 obtain⟨A,m,na,ra,ns,row,rfl,M,iR,iP,Jj,Jk,bH,uX,mW,k⟩:=h;have rc:=fh bH;refine⟨_,ab (br (dw (cx (al D1 (hr.bI zq_dc) rfl (bA (pv 1) (fE (aO (al D2 (hr.bI zq_dc) rfl (aO (pv 0))))))))) (af (aw (a_ (aO (cN (cQ.i U (n:=-2) zq_dk) rfl))))) aK)
  (ab (bg (i:=3) nd rfl (aH rfl) (bK be (ai (pv 0) rfl) (bK be (pv 1) am (λ _ _=>rfl)) (λ _ _=>rfl)))
  (ab (br (cx (al D3 (hr.bI zq_dc) rfl (aO (pv 3)))) (af (aw (a_ (aO (cN (cQ.i U (n:=-6) zq_dk) rfl))))) aK)
  (ab (aN (pv 3) (cN (T.i (n:=4) zq_dk) rfl) rfl)
  (ab (aN (pv 3) (ai (pv 0) rfl) rfl)
  (ab (br (aI dM (ai (pv 0) rfl) (ai (pv 3) rfl) (aR _)) (af (aN (pv 0) fC rfl)) aK)
  (af (aw (a_ (aO am))))))))),?_⟩
 try dsimp only [bx,Cx.dJ]
 refine⟨_,rfl,_,rfl,A,m,rfl,M,λ t1 EZ=>⟨bE,λ t2 pM=>?_⟩⟩;have sa:=ae.new (o:=.fc ([0,(m.jobs.length:Int) -1].map V.int)) EZ;have sb:=ae.new (o:=.fc [.ref t1]) pM;have Ht:=sa.trans sb;refine⟨na,t2,ns,[(0,(m.jobs.length:Int) -1)],rfl,aP.of (Ht _ _ iR),sZ aa (e9.of (sb _ _ aa)),bH,λ H1 Rk=>?_⟩;have s1:=Ht.trans Rk;have hw:withinAll ns [(0,(m.jobs.length:Int) -1)]=c7 m (.kill (ns.getD 0 0)):=by
  rw[rc];show(bC (ns.getD 0 0) (0,(m.jobs.length:Int) -1)&&true)=_;rw[kq];rfl
 have M1:=M.same s1;have g9:=s1 _ _ iR;obtain⟨d1,qC⟩:=M1.ok.dA;refine⟨_,rfl,?_⟩;rw[hw];cases hb:c7 m (.kill (ns.getD 0 0))with
 |false=>
  have hg:uy m ns row=(m,[-2]):=by unfold uy;rw[hb];rfl
  rw[hg]at k;refine⟨bE,λ p hp=>?_⟩;exact k p _ A rfl (M1.same (ae.new hp)) (fP.new (fP.same s1) hp) (ae.bN s1 hp) (bL M1 hp) (by rw[aa];rfl)
 |true=>
  have j7:bJ (ns.getD 0 0) 0 ((m.jobs.length:Int) -1)=true:=hb;obtain⟨b1,b2⟩:0<=ns.getD 0 0/\ns.getD 0 0<=(m.jobs.length:Int) -1:=by
   unfold bJ at j7;simpa using j7
  obtain⟨j,hj⟩:∃n:Nat,ns.getD 0 0=n:=⟨(ns.getD 0 0).toNat,ah⟩;have Bl:j<m.jobs.length:=by omega
  have yg:ml (ns.map V.int) (0:Int)=some (.int (j:Int)):=by
   rw[<-hj];exact cA (k:=0) ah
  obtain⟨ej,⟨dj,Jl⟩⟩:=M1.job Bl;have Nl:=M1.ok.aD;have E5:ml ((bw A m).js.map λ q=>V.ref q.a) (j:Int)=some (.ref (aj A j)):=by
   refine cG ?_;rw[aT,ej];rfl
  refine⟨_,rfl,A.ma,C.cM,d1,_,_,rfl,qC,T.iX,T.nM _ zq_dk,MV.get _ (k:=8) rfl rfl,_,rfl,na,_,_,_,rfl,rfl,aP.of g9,yg,_,_,_,_,rfl,rfl,aP.of Nl,E5,?_⟩;refine⟨_,rfl,aj A j,_,rfl,⟨dj,Jl⟩,_,rfl,?_⟩;have eo:=lY (aX m j).stand;have hd:uy m ns row=if gw (aX m j)=true then(m,[-6])else({C2 m j {aX m j with stand:=.killed,finish:=m.now}with current:=if m.current=some j then none else m.current},[0]):=by
   unfold uy;rw[hb,au rfl,hj];rfl
  rw[hd]at k;cases ho:gw (aX m j)with
  |true=>
   rw[ho,au rfl]at k;refine gk (eo.trans ho) ?_;refine⟨bE,λ p hp=>?_⟩;exact k p _ A rfl (M1.same (ae.new hp)) (fP.new (fP.same s1) hp) (ae.bN s1 hp) (bL M1 hp) (by rw[aa];rfl)
  |false=>
   rw[ho,ao zq_dc]at k;refine gg (eo.trans ho) ?_;obtain⟨mv,Kj⟩:=bS (de A.la A.ra m);obtain⟨J0,E6⟩:=bS (bZ j (A.ps.getD j 0) (aX m j));have Wc:H1 A.ma=some (.bD C.cM d1 mv.fs):=by rw[Kj];exact qC
   have px:H1 (aj A j)=some (.bD C.cJ dj J0.fs):=by rw[E6];exact Jl
   refine⟨_,rfl,wJ T px ?_⟩;rw[J0.fU {J0 with aF:=4} (k:=7) rfl rfl];have t1:dP C H1 _ A.ma (aj A j) mv {J0 with aF:=4}:=dP.gD (dj:=dj) ⟨d1,Wc⟩ ⟨dj,px⟩;generalize aS H1 (aj A j) _=H2 at t1;obtain⟨dm2,DQ⟩:=t1.m;obtain⟨Cq,sy⟩:=t1.j;refine⟨_,rfl,rM T DQ 4 rfl rfl ⟨_,rfl,wJ T sy ?_⟩⟩;rw[JV.fU {J0 with aF:=4} {J0 with aF:=4,oi:=mv.now} (k:=18) rfl rfl];have t2:=t1.trans (dP.gD (dj:=Cq) (j':={J0 with aF:=4,oi:=mv.now}) ⟨dm2,DQ⟩ ⟨Cq,sy⟩);generalize aS H2 (aj A j) _=H3 at t2;obtain⟨dm3,VD⟩:=t2.m;obtain⟨Kg,DS⟩:=t2.j;have eJ:({J0 with aF:=4,oi:=mv.now}:JV)=bZ j (A.ps.getD j 0) {aX m j with stand:=.killed,finish:=m.now}:=by
    rw[E6,Kj];rfl
   have J:=M.wf.job j Bl;have J':e7 {aX m j with stand:=.killed,finish:=m.now}:=⟨J.DU,J.uw,J.pass,J.parts,(λ z=>by cases z),(λ z=>by cases z),(λ z=>by cases z),J.level⟩;have W':∀c',(m.policy≠0 ->c'=none) ->jz {C2 m j {aX m j with stand:=.killed,finish:=m.now}with current:=c'}:=λ c' hc=>by
    have W2:=M.wf.set (i:=j) J';exact⟨W2.job,W2.floor,hc,W2.len,W2.age,W2.who⟩
   have zN:zN mv.current (.int J0.bh)=true:=by
    rw[Kj,E6];exact(Ak (A:=A) M.wf).ok.zN _
   have ec0:mv.current=Co m.current:=by rw[Kj];rfl
   have en0:J0.bh=((j:Nat):Int):=by rw[E6];rfl
   refine⟨_,rfl,rM T VD 7 rfl rfl ⟨_,rfl,aj A j,C.cJ,Kg,_,_,rfl,DS,T.kK,T.nJ _ zq_dk,JV.get {J0 with aF:=4,oi:=mv.now} (k:=0) rfl rfl,zN,_,rfl,?_⟩⟩;have done:∀(c':Option Nat)(H4:Hp),(m.policy≠0 ->c'=none) ->(if m.current=some j then none else m.current)=c' ->dP C H1 H4 A.ma (aj A j) (de A.la A.ra {C2 m j {aX m j with stand:=.killed,finish:=m.now}with current:=c'}) (bZ j (A.ps.getD j 0) {aX m j with stand:=.killed,finish:=m.now}) ->∀p,H4 p=none ->Q (.ref p) (aS H4 p (.aD [.int 0])):=λ c' H4 hc ec t4 p hp=>by
    obtain⟨M4,f4⟩:=M1.QW (m':={C2 m j {aX m j with stand:=.killed,finish:=m.now}with current:=c'}) Bl t4 rfl rfl rfl (W' c' hc);have k':=k p (aS H4 p (.aD [.int 0])) A rfl;rw[ec]at k';exact k' (M4.same (ae.new hp)) (fP.new ((fP.same s1).trans f4) hp) (ae.bN s1 (f4.bu p hp)) (bL M4 hp) (by rw[aa];rfl)
   by_cases Rn:m.current=some j
   .have hdc:decide (mv.current=V.int J0.bh)=true:=bO (by rw[ec0,en0,Rn];rfl);refine gk hdc ?_;refine⟨_,rfl,wM T VD ?_⟩;rw[mv.fU {mv with current:=.bu} (k:=7) rfl rfl];have t3:=t2.trans (dP.EJ (dm:=dm3) (m':={mv with current:=.bu}) ⟨dm3,VD⟩ ⟨Kg,DS⟩);generalize aS H3 A.ma _=H4 at t3;rw[eJ,Kj]at t3;exact⟨bE,λ p hp=>done none H4 (λ _=>rfl) (au Rn) t3 p hp⟩
   .have hdc:decide (mv.current=V.int J0.bh)=false:=gh λ z=>Rn (by
     rw[ec0,en0]at z;cases hc:m.current with
     |none=>rw[hc]at z;cases z
     |some c=>
      rw[hc]at z
      injection z with ZI
      have:((c:Nat):Int)=j:=ZI;congr 1;omega)
    refine gg hdc ?_;rw[eJ,Kj]at t2;exact⟨bE,λ p hp=>done m.current H3 M.wf.QO (ao Rn) t2 p hp⟩
theorem Nm{ns:List Int}(h:ns.length=3):ns=[ns.getD 0 0,ns.getD 1 0,ns.getD 2 0]:=by
 match ns,h with
 |[a,b,c],_=>rfl
theorem Au{K:aE}{H:Hp}{t a b c:Addr}{x y z:Int×Int}(ht:H t=some (.fc [.ref a,.ref b,.ref c]))(ha:e9 K H a [.int x.1,.int x.2])(hb:e9 K H b [.int y.1,.int y.2])(hc:e9 K H c [.int z.1,.int z.2]):g8 K H t [x,y,z]:=
 ⟨[a,b,c],e9.of ht,rfl,λ i d r h1 h2=>by
  match i,h1,h2 with
  |0,h1,h2=>cases h1;cases h2;exact ha
  |1,h1,h2=>cases h1;cases h2;exact hb
  |2,h1,h2=>cases h1;cases h2;exact hc
  |n+3,h1,h2=>cases h1⟩
def ku(m:ax)(ns row:List Int):ax×List Int:=
 if c7 m (.change (ns.getD 0 0) (ns.getD 1 0) (ns.getD 2 0))=true then cI m (.change (ns.getD 0 0) (ns.getD 1 0) (ns.getD 2 0))else(m,[-2])
theorem Jm(F:bi K "change" Cn f fd)(T:Txt K mg C)(U:cQ K mg)(D1:Jf P w K mg base)(D2:cF P w K mg base "job_numbers" [b8] 1 (wW C))(D3:cF P w K mg base "is_over" [dL] 1 (qo C)):
  bj P w K mg base CX0 3 f fd [b8,fb,c_] (dg C 3 ku):=by
 refine F.ok [b8,fb,c_,dL] λ b_ A0 aA s H vs Q E hr h nd=>?_
 obtain⟨A,m,na,ra,ns,row,rfl,M,iR,iP,Jj,Jk,bH,uX,mW,k⟩:=h;have rc:=Nm bH;obtain⟨tu,htu,hU⟩:=U.pair ("URGENCY_RANGE",(0,9)) zq_dk;obtain⟨ts,hts,hS⟩:=U.pair ("SHARES_RANGE",(1,100)) zq_dk;refine⟨_,ab (br (dw (cx (al D1 (hr.bI zq_dc) rfl (bA (pv 1) (fE (jG (al D2 (hr.bI zq_dc) rfl (aO (pv 0))) (b9 (v:=.ref tu) rfl htu rfl) (b9 (v:=.ref ts) rfl hts rfl))))))) (af (aw (a_ (aO (cN (cQ.i U (n:=-2) zq_dk) rfl))))) aK)
  (ab (bg (i:=3) nd rfl (aH rfl) (bK be (ai (pv 0) rfl) (bK be (pv 1) am (λ _ _=>rfl)) (λ _ _=>rfl)))
  (ab (br (cx (al D3 (hr.bI zq_dc) rfl (aO (pv 3)))) (af (aw (a_ (aO (cN (cQ.i U (n:=-6) zq_dk) rfl))))) aK)
  (ab (aN (pv 3) (bK be (pv 1) am (λ _ _=>rfl)) rfl)
  (ab (aN (pv 3) (bK be (pv 1) am (λ _ _=>rfl)) rfl)
  (ab (aN (pv 3) am rfl)
  (af (aw (a_ (aO am))))))))),?_⟩
 try dsimp only [bx,Cx.dJ]
 refine⟨_,rfl,_,rfl,A,m,rfl,M,λ t1 EZ=>⟨(by show(3:Nat)<=2^24;decide),λ t2 pM=>?_⟩⟩;have sa:=ae.new (o:=.fc ([0,(m.jobs.length:Int) -1].map V.int)) EZ;have sb:=ae.new (o:=.fc [.ref t1,.ref tu,.ref ts]) pM;have Ht:=sa.trans sb;refine⟨na,t2,ns,[(0,(m.jobs.length:Int) -1),(0,9),(1,100)],rfl,aP.of (Ht _ _ iR),Au aa (e9.of (sb _ _ aa)) (hU _) (hS _),bH,λ H1 Rk=>?_⟩;have s1:=Ht.trans Rk;have hw:withinAll ns [(0,(m.jobs.length:Int) -1),(0,9),(1,100)]=c7 m (.change (ns.getD 0 0) (ns.getD 1 0) (ns.getD 2 0)):=by
  rw[rc];show(bC (ns.getD 0 0) (0,(m.jobs.length:Int) -1)&&(bC (ns.getD 1 0) (0,9)&&(bC (ns.getD 2 0) (1,100)&&true)))=_;rw[kq];rfl
 have M1:=M.same s1;have g9:=s1 _ _ iR;obtain⟨d1,qC⟩:=M1.ok.dA;refine⟨_,rfl,?_⟩;rw[hw];cases hb:c7 m (.change (ns.getD 0 0) (ns.getD 1 0) (ns.getD 2 0))with
 |false=>
  have hg:ku m ns row=(m,[-2]):=by unfold ku;rw[hb];rfl
  rw[hg]at k;refine⟨bE,λ p hp=>?_⟩;exact k p _ A rfl (M1.same (ae.new hp)) (fP.new (fP.same s1) hp) (ae.bN s1 hp) (bL M1 hp) (by rw[aa];rfl)
 |true=>
  have j7:(bJ (ns.getD 0 0) 0 ((m.jobs.length:Int) -1)&&(bJ (ns.getD 1 0) 0 9&&bJ (ns.getD 2 0) 1 100))=true:=hb;obtain⟨⟨b1,b2⟩,⟨b3,b4⟩,b5,b6⟩:(0<=ns.getD 0 0/\ns.getD 0 0<=(m.jobs.length:Int) -1)/\(0<=ns.getD 1 0/\ns.getD 1 0<=9)/\1<=ns.getD 2 0/\ns.getD 2 0<=100:=by
   unfold bJ at j7;simpa using j7
  obtain⟨j,hj⟩:∃n:Nat,ns.getD 0 0=n:=⟨(ns.getD 0 0).toNat,ah⟩;obtain⟨u,hu⟩:∃n:Nat,ns.getD 1 0=n:=⟨(ns.getD 1 0).toNat,ah⟩;obtain⟨sh,hsh⟩:∃n:Nat,ns.getD 2 0=n:=⟨(ns.getD 2 0).toNat,ah⟩;have Bl:j<m.jobs.length:=by omega
  have yg:ml (ns.map V.int) (0:Int)=some (.int (j:Int)):=by rw[<-hj];exact cA (k:=0) ah
  have Wb:ml (ns.map V.int) (1:Int)=some (.int (u:Int)):=by rw[<-hu];exact cA (k:=1) ah
  have ac6:ml (ns.map V.int) (2:Int)=some (.int (sh:Int)):=by rw[<-hsh];exact cA (k:=2) ah
  obtain⟨ej,⟨dj,Jl⟩⟩:=M1.job Bl;have Nl:=M1.ok.aD;have E5:ml ((bw A m).js.map λ q=>V.ref q.a) (j:Int)=some (.ref (aj A j)):=by
   refine cG ?_;rw[aT,ej];rfl
  refine⟨_,rfl,A.ma,C.cM,d1,_,_,rfl,qC,T.iX,T.nM _ zq_dk,MV.get _ (k:=8) rfl rfl,_,rfl,na,_,_,_,rfl,rfl,aP.of g9,yg,_,_,_,_,rfl,rfl,aP.of Nl,E5,?_⟩;refine⟨_,rfl,aj A j,_,rfl,⟨dj,Jl⟩,_,rfl,?_⟩;have eo:=lY (aX m j).stand;have hd:ku m ns row=if gw (aX m j)=true then(m,[-6])else(C2 m j {aX m j with urgency:=u,shares:=sh,waited:=0},[0]):=by
   unfold ku;rw[hb,au rfl,hj,hu,hsh];rfl
  rw[hd]at k;cases ho:gw (aX m j)with
  |true=>
   rw[ho,au rfl]at k;refine gk (eo.trans ho) ?_;refine⟨bE,λ p hp=>?_⟩;exact k p _ A rfl (M1.same (ae.new hp)) (fP.new (fP.same s1) hp) (ae.bN s1 hp) (bL M1 hp) (by rw[aa];rfl)
  |false=>
   rw[ho,ao zq_dc]at k;refine gg (eo.trans ho) ?_;obtain⟨mv,Kj⟩:=bS (de A.la A.ra m);obtain⟨J0,E6⟩:=bS (bZ j (A.ps.getD j 0) (aX m j));have Wc:H1 A.ma=some (.bD C.cM d1 mv.fs):=by rw[Kj];exact qC
   have px:H1 (aj A j)=some (.bD C.cJ dj J0.fs):=by rw[E6];exact Jl
   refine⟨_,rfl,na,_,_,_,rfl,rfl,aP.of g9,Wb,_,rfl,wJ T px ?_⟩;rw[J0.fU {J0 with urgency:=(u:Int)} (k:=2) rfl rfl];have t1:dP C H1 _ A.ma (aj A j) mv {J0 with urgency:=(u:Int)}:=dP.gD (dj:=dj) ⟨d1,Wc⟩ ⟨dj,px⟩;have aaL:aS H1 (aj A j) (.bD C.cJ dj {J0 with urgency:=(u:Int)}.fs) na=some (.aD (ns.map V.int)):=by rw[ag (io g9 px)];exact g9
   generalize aS H1 (aj A j) _=H2 at t1 aaL;obtain⟨dm2,DQ⟩:=t1.m;obtain⟨Cq,sy⟩:=t1.j;refine⟨_,rfl,na,_,_,_,rfl,rfl,aP.of aaL,ac6,_,rfl,wJ T sy ?_⟩;rw[JV.fU {J0 with urgency:=(u:Int)} {J0 with urgency:=(u:Int),shares:=(sh:Int)} (k:=3) rfl rfl];have t2:=t1.trans (dP.gD (dj:=Cq) (j':={J0 with urgency:=(u:Int),shares:=(sh:Int)}) ⟨dm2,DQ⟩ ⟨Cq,sy⟩);generalize aS H2 (aj A j) _=H3 at t2;obtain⟨dm3,VD⟩:=t2.m;obtain⟨Kg,DS⟩:=t2.j;refine⟨_,rfl,wJ T DS ?_⟩;rw[JV.fU {J0 with urgency:=(u:Int),shares:=(sh:Int)} {J0 with urgency:=(u:Int),shares:=(sh:Int),waited:=0} (k:=13) rfl rfl];have t3:=t2.trans (dP.gD (dj:=Kg) (j':={J0 with urgency:=(u:Int),shares:=(sh:Int),waited:=0}) ⟨dm3,VD⟩ ⟨Kg,DS⟩);generalize aS H3 (aj A j) _=H4 at t3;have J:=M.wf.job j Bl;have J':e7 {aX m j with urgency:=u,shares:=sh,waited:=0}:=⟨by show 1<=sh;omega,⟨by show sh<=100;omega,by show u<=9;omega⟩,J.pass,J.parts,J.asleep,J.ready,J.coming,J.level⟩;have eJ:({J0 with urgency:=(u:Int),shares:=(sh:Int),waited:=0}:JV)=bZ j (A.ps.getD j 0) {aX m j with urgency:=u,shares:=sh,waited:=0}:=by
    rw[E6];rfl
   rw[eJ,Kj]at t3;refine⟨bE,λ p hp=>?_⟩;obtain⟨M4,f4⟩:=M1.QW (m':=C2 m j {aX m j with urgency:=u,shares:=sh,waited:=0}) Bl t3 rfl rfl rfl (M.wf.set J');exact k p (aS H4 p (.aD [.int 0])) A rfl (M4.same (ae.new hp)) (fP.new ((fP.same s1).trans f4) hp) (ae.bN s1 (f4.bu p hp)) (bL M4 hp) (by rw[aa];rfl)
def ox(m:ax)(ns row:List Int):ax×List Int:=
 if c7 m (.state (ns.getD 0 0))=true then cI m (.state (ns.getD 0 0))else(m,[-2])
theorem Nn(F:bi K "state" GY f fd)(T:Txt K mg C)(U:cQ K mg)(D1:Jf P w K mg base)(D2:cF P w K mg base "job_numbers" [b8] 1 (wW C))(D3:cF P w K mg base "pass_in_lowest_terms" ["pass_parts"] 2 Nf):
  bj P w K mg base CX0 3 f fd [b8,fb,c_] (dg C 1 ox):=by
 refine F.ok [b8,fb,c_,dL,"told"] λ b_ A0 aA s H vs Q E hr h nd=>?_
 obtain⟨A,m,na,ra,ns,row,rfl,M,iR,iP,Jj,Jk,bH,uX,mW,k⟩:=h;have rc:=fh bH;refine⟨_,ab (br (dw (cx (al D1 (hr.bI zq_dc) rfl (bA (pv 1) (fE (aO (al D2 (hr.bI zq_dc) rfl (aO (pv 0))))))))) (af (aw (a_ (aO (cN (cQ.i U (n:=-2) zq_dk) rfl))))) aK)
  (ab (bg (i:=3) nd rfl (aH rfl) (bK be (ai (pv 0) rfl) (bK be (pv 1) am (λ _ _=>rfl)) (λ _ _=>rfl)))
  (ab (bg (i:=4) nd rfl (aH rfl) (a_ (dE (ai (pv 3) rfl) (dE (ai (pv 3) rfl) (dE (ai (pv 3) rfl) (dE (ai (pv 3) rfl) (dE (ai (pv 3) rfl) (jG (ai (pv 3) rfl) (ai (pv 3) rfl) (ai (pv 3) rfl)))))))))
  (ab (bz (iK jc pJ rL e_ (pv 4) (aO (al D3 (hr.bI zq_dc) rfl (aO (ai (pv 3) rfl))))))
  (ab (bz (iK jc pJ rL e_ (pv 4) (aO (a_ (jG (ai (pv 3) rfl) (ai (pv 3) rfl) (ai (pv 3) rfl))))))
  (af (aw (pv 4))))))),?_⟩
 try dsimp only [bx,Cx.dJ]
 refine⟨_,rfl,_,rfl,A,m,rfl,M,λ t1 EZ=>⟨bE,λ t2 pM=>?_⟩⟩;have sa:=ae.new (o:=.fc ([0,(m.jobs.length:Int) -1].map V.int)) EZ;have sb:=ae.new (o:=.fc [.ref t1]) pM;have Ht:=sa.trans sb;refine⟨na,t2,ns,[(0,(m.jobs.length:Int) -1)],rfl,aP.of (Ht _ _ iR),sZ aa (e9.of (sb _ _ aa)),bH,λ H1 Rk=>?_⟩;have s1:=Ht.trans Rk;have hw:withinAll ns [(0,(m.jobs.length:Int) -1)]=c7 m (.state (ns.getD 0 0)):=by
  rw[rc];show(bC (ns.getD 0 0) (0,(m.jobs.length:Int) -1)&&true)=_;rw[kq];rfl
 have M1:=M.same s1;have g9:=s1 _ _ iR;obtain⟨d1,qC⟩:=M1.ok.dA;refine⟨_,rfl,?_⟩;rw[hw];cases hb:c7 m (.state (ns.getD 0 0))with
 |false=>
  have hg:ox m ns row=(m,[-2]):=by unfold ox;rw[hb];rfl
  rw[hg]at k;refine⟨bE,λ p hp=>?_⟩;exact k p _ A rfl (M1.same (ae.new hp)) (fP.new (fP.same s1) hp) (ae.bN s1 hp) (bL M1 hp) (by rw[aa];rfl)
 |true=>
  have j7:bJ (ns.getD 0 0) 0 ((m.jobs.length:Int) -1)=true:=hb;obtain⟨b1,b2⟩:0<=ns.getD 0 0/\ns.getD 0 0<=(m.jobs.length:Int) -1:=by
   unfold bJ at j7;simpa using j7
  obtain⟨j,hj⟩:∃n:Nat,ns.getD 0 0=n:=⟨(ns.getD 0 0).toNat,ah⟩;have Bl:j<m.jobs.length:=by omega
  have yg:ml (ns.map V.int) (0:Int)=some (.int (j:Int)):=by rw[<-hj];exact cA (k:=0) ah
  obtain⟨ej,⟨dj,Jl⟩⟩:=M1.job Bl;have Nl:=M1.ok.aD;have E5:ml ((bw A m).js.map λ q=>V.ref q.a) (j:Int)=some (.ref (aj A j)):=by
   refine cG ?_;rw[aT,ej];rfl
  refine⟨_,rfl,A.ma,C.cM,d1,_,_,rfl,qC,T.iX,T.nM _ zq_dk,MV.get _ (k:=8) rfl rfl,_,rfl,na,_,_,_,rfl,rfl,aP.of g9,yg,_,_,_,_,rfl,rfl,aP.of Nl,E5,?_⟩;have J:=M.wf.job j Bl;obtain⟨x,hx⟩:=bS (aX m j);have hd:ox m ns row=(m,Vbtkad.ints [G1 x.stand,x.place,x.left,x.round,x.wake,x.waited,x.used,x.level,x.pass.n,x.pass.d,x.ran,x.finish,x.longest]):=by
   unfold ox;rw[hb,au rfl,hj,hx];rfl
  rw[hd]at k;obtain⟨J0,E6⟩:=bS (bZ j (A.ps.getD j 0) x);have px:H1 (aj A j)=some (.bD C.cJ dj J0.fs):=by rw[E6,hx];exact Jl
  refine⟨_,rfl,aj A j,C.cJ,dj,_,_,rfl,px,T.kK,T.nJ _ zq_dk,J0.get (k:=7) rfl rfl,_,rfl,aj A j,C.cJ,dj,_,_,rfl,px,T.kK,T.nJ _ zq_dk,J0.get (k:=8) rfl rfl,_,rfl,aj A j,C.cJ,dj,_,_,rfl,px,T.kK,T.nJ _ zq_dk,J0.get (k:=9) rfl rfl,_,rfl,aj A j,C.cJ,dj,_,_,rfl,px,T.kK,T.nJ _ zq_dk,J0.get (k:=10) rfl rfl,
   _,rfl,aj A j,C.cJ,dj,_,_,rfl,px,T.kK,T.nJ _ zq_dk,J0.get (k:=11) rfl rfl,_,rfl,aj A j,C.cJ,dj,_,_,rfl,px,T.kK,T.nJ _ zq_dk,J0.get (k:=13) rfl rfl,_,rfl,aj A j,C.cJ,dj,_,_,rfl,px,T.kK,T.nJ _ zq_dk,J0.get (k:=14) rfl rfl,_,rfl,aj A j,C.cJ,dj,_,_,rfl,px,T.kK,T.nJ _ zq_dk,J0.get (k:=15) rfl rfl,
   (by show(8:Nat)<=2^24;decide),λ tp pw=>?_⟩
  have s2:=ae.new (o:=.aD [.int J0.aF,.int J0.bX,.int J0.left,.int J0.bd,.int J0.eC,.int J0.waited,.int J0.used,.int J0.level]) pw;obtain⟨H2,wX⟩:=bS (aS H1 tp (.aD [.int J0.aF,.int J0.bX,.int J0.left,.int J0.bd,.int J0.eC,.int J0.waited,.int J0.used,.int J0.level]));rw[<-wX]at s2⊢;have pM:H2 tp=some (.aD [.int J0.aF,.int J0.bX,.int J0.left,.int J0.bd,.int J0.eC,.int J0.waited,.int J0.used,.int J0.level]):=by rw[wX];exact aa
  have sy:=s2 _ _ px;have aaM:J0.cb=((fI x.pass:Nat):Int):=by rw[E6];rfl
  refine⟨_,rfl,.inl ⟨rfl,_,aP.of pM⟩,_,rfl,rJ T sy 16 rfl rfl ⟨fI x.pass,(by show [V.int J0.cb]=[V.int ((fI x.pass:Nat):Int)];rw[aaM]),λ p3 H3 T0 s3 h3=>?_⟩⟩;obtain⟨en,ed⟩:=Hh (f:=x.pass) (by rw[hx];exact J.pass);rw[<-en,<-ed]at h3;have Wd:=s3 _ _ pM;refine⟨tp,p3,_,_,rfl,rfl,Wd,h3,(by show(8:Nat)+2<=2^24;decide),?_⟩;have DS:=s3 _ _ sy;have ne3:aj A j≠tp:=λ z=>by rw[z,Wd]at DS;cases DS
  obtain⟨H4,DV⟩:=bS (aS H3 tp (.aD ([.int J0.aF,.int J0.bX,.int J0.left,.int J0.bd,.int J0.eC,.int J0.waited,.int J0.used,.int J0.level]++[((x.pass.n:Nat):Int),((x.pass.d:Nat):Int)].map V.int)));rw[<-DV];have TF:H4 (aj A j)=some (.bD C.cJ dj J0.fs):=by rw[DV,ag ne3];exact DS
  have T6:H4 tp=some (.aD ([.int J0.aF,.int J0.bX,.int J0.left,.int J0.bd,.int J0.eC,.int J0.waited,.int J0.used,.int J0.level]++[((x.pass.n:Nat):Int),((x.pass.d:Nat):Int)].map V.int)):=by rw[DV];exact aa
  refine⟨_,rfl,.inl ⟨rfl,_,aP.of T6⟩,_,rfl,rJ T TF 17 rfl rfl ⟨_,rfl,rJ T TF 18 rfl rfl ⟨_,rfl,rJ T TF 19 rfl rfl ⟨(by show(3:Nat)<=2^24;decide),λ q hq=>?_⟩⟩⟩⟩;refine⟨tp,q,_,_,rfl,rfl,(by rw[ag (aM T6 hq)];exact T6),aa,(by show(10:Nat)+3<=2^24;decide),_,rfl,?_⟩;have all:∀o,ae H1 (aS (aS H4 q (.aD [.int J0.ran,.int J0.oi,.int J0.dF])) tp o):=λ o b u e=>by
   have nb:b≠tp:=aM e pw;rw[ag nb,ag (aM (by rw[DV,ag nb];exact s3 _ _ (s2 _ _ e)) hq),DV,ag nb];exact s3 _ _ (s2 _ _ e)
  have st:=s1.trans (all (.aD (([.int J0.aF,.int J0.bX,.int J0.left,.int J0.bd,.int J0.eC,.int J0.waited,.int J0.used,.int J0.level]++[((x.pass.n:Nat):Int),((x.pass.d:Nat):Int)].map V.int)++[.int J0.ran,.int J0.oi,.int J0.dF])));refine k tp _ A rfl (M.same st) (fP.same st) (ae.bN s1 pw) (bL M1 pw) ?_;rw[aa,E6];rfl
theorem jr.jb{C:CA}{H H':Hp}{A:MA}{m:ax}{Pt:Addr}{qn:Str}(h:jr C H A m)(hP:wO C Pt qn)(sp:cX Pt H H')(T:qj H' Pt qn):jr C H' A m/\fP C A A H H':=by
 obtain⟨ps,hp⟩:=(h.tb _ hP.1).is;have i9:Pt∈C.cE.map (·.1):=cY.mpr ⟨_,hP.1,rfl⟩;refine⟨⟨h.ok.jb hp sp,h.wf,h.tb.jb hP.1 hP.2 sp T,h.lj,h.lp⟩,λ b o e _ n=>sp b o e λ z=>n (z▸i9),λ b eb=>?_,λ b hb=>.inl hb⟩;cases q:H b with
 |none=>rfl
 |some o=>
  by_cases z:b=Pt
  .obtain⟨ps',Kh⟩:=T.is;rw[z,Kh]at eb;cases eb
  .rw[sp b o q z]at eb;cases eb
theorem jr.jobs{C:CA}{H:Hp}{A:MA}{m:ax}(h:jr C H A m):lS C H (de A.la A.ra m).jobs (jp (bw A m)):=by
 refine⟨?_,λ p hp=>?_⟩
 .have:=h.ok.aD;unfold jp;rw[bB];exact this
 .obtain⟨q,hq,rfl⟩:=cY.mp hp;exact(h.ok.at_ q hq).1
theorem Ro{A:MA}{m:ax}(W:jz m):(MS.eI HT.lexLt (mJ (de A.la A.ra m) (qB (jp (bw A m))))).map (·.2)=(wY m).map λ i=>V.ref (aj A i):=by
 have e:mJ (de A.la A.ra m) (qB (jp (bw A m)))=((T8 m).map λ i=>(rk m i,i)).map λ z=>(z.1,V.ref (aj A z.2)):=by
  unfold mJ qB jp;rw[oX default (λ q:PJ=>(q.a,q.j)) (bw A m).js,mw,bB,bB];have r:=Am (A:=A) (m:=m);unfold jq at r;rw[show((bf (bw A m).js.length).filter ((λ p:Addr×JV=>decide (p.2.aF=1))∘λ i=>(((bw A m).js.getD i default).a,((bw A m).js.getD i default).j)))=T8 m from r];refine gu λ i hi=>?_
  have hl:i<m.jobs.length:=gB.mp (ii.mp hi).1;have ea:(bw A m).js.getD i default=eF A i (aX m i):=fg hl;show(gJ _ ((bw A m).js.getD i default).j,V.ref ((bw A m).js.getD i default).a)=_;rw[ea];rfl
 rw[e,y9 HT.lexLt (λ i=>V.ref (aj A i)),bB,wQ m (lV W),bB];rfl
theorem C3{m:ax}(W:jz m):(∀i∈wY m,i<m.jobs.length)/\(wY m).length<=16:=by
 rw[wQ m (lV W)];have pm:=(lT HT.lexLt ((T8 m).map λ i=>(rk m i,i))).map mK;rw[bB,show(mK∘λ i=>(rk m i,i))=(id:Nat ->Nat) from rfl,uq]at pm;refine⟨λ i hi=>gB.mp (ii.mp (pm.mem_iff.mp hi)).1,?_⟩;rw[pm.length_eq];refine fB (G6 _ _) ?_;rw[ko];exact W.len
def Av(m:ax)(ns row:List Int):ax×List Int:=cI m .order
theorem No{f Pt:Addr}{fd:bp}(F:bi K "order" Aa f fd)(T:Txt K mg C)(hP:wO C Pt Mt)(D1:cF P w K mg base "ready_in_order" [b8] 7 (Tx C Pt)):
  bj P w K mg base CX0 8 f fd [b8,fb,c_] (dg C 0 Av):=by
 refine F.ok [b8,fb,c_,"ready",dL] λ b_ A0 aA s H vs Q E hr h nd=>?_
 obtain⟨A,m,na,ra,ns,row,rfl,M,iR,iP,Jj,Jk,bH,uX,mW,k⟩:=h;refine⟨_,ab (bg (i:=3) nd rfl (aH rfl) (al D1 hr rfl (aO (pv 0))))
  (af (aw (bG vZ (a_ (aO (aY aW (by rfl) (T.bu _ zq_dk) eX (aO (pv 3)))))
   (iL (own:=[("job",4)]) (tt:=jE) (te:=gN K (bQ 4) "number") rfl nd (bF (pv 3)) (bP (by show gW [b8,fb,c_,"ready",dL] (aJ Aa) _ _=true;decide+kernel)) (λ _ _ _ _ _=>by exact aU (i:=4) nd rfl (aH rfl)) (λ _ _ _ _ _=>by exact di) (λ _ _ _ _ _=>by exact ai (pv 4) rfl))))),?_⟩
 try dsimp only [bx,Cx.dJ]
 refine⟨_,rfl,A.ma,de A.la A.ra m,jp (bw A m),rfl,M.ok.dA,M.jobs,(by unfold jp;rw[ak,bM];exact M.wf.len),(Ak (A:=A) M.wf).ok,M.tb _ hP.1,λ H1 p sp Tb hp=>?_⟩;obtain⟨M1,f1⟩:=M.jb hP sp Tb;rw[Ro M.wf];obtain⟨ol,o16⟩:=C3 M.wf;obtain⟨l,hl⟩:=bS (wY m);rw[<-hl]at ol o16⊢;have s2:=ae.new (o:=.aD (l.map λ i=>V.ref (aj A i))) hp;obtain⟨H2,wX⟩:=bS (aS H1 p (.aD (l.map λ i=>V.ref (aj A i))));rw[<-wX]at s2⊢;have ou:H2 p=some (.aD (l.map λ i=>V.ref (aj A i))):=by rw[wX];exact aa
 refine⟨_,rfl,p,_,rfl,.inl (aP.of ou),bE,λ q hq=>?_⟩;rw[ak];have s3:=ae.new (o:=.aD [.int (l.length:Int)]) hq;obtain⟨H3,Ke⟩:=bS (aS H2 q (.aD [.int (l.length:Int)]));rw[<-Ke]at s3⊢;have hq3:H3 q=some (.aD [.int (l.length:Int)]):=by rw[Ke];exact aa
 have T0:=s3 _ _ ou;have M3:=(M1.same s2).same s3;refine⟨_,rfl,p,rfl,⟨_,aP.of T0⟩,λ D hD=>?_⟩;refine qT (K:=K) (a:=p) (xs:=l.map λ i=>V.ref (aj A i)) (λ i H'=>H'=aS H3 D (.aD ((l.take i).map λ n:Nat=>V.int (n:Int)))) rfl (λ i H' _ e=>?_) (λ i x H' hx e=>?_) (λ H' e=>?_)
 .subst e;exact aP.of (ae.new hD _ _ T0)
 .subst e;rw[aT]at hx;cases hn:l[i]?with
  |none=>rw[hn]at hx;cases hx
  |some n=>
   rw[hn]at hx;cases hx;have qE:=ol n (cH hn);obtain⟨_,⟨dj,hj⟩⟩:=M3.job qE;have z7:=ae.new (o:=.aD ((l.take i).map λ n:Nat=>V.int (n:Int))) hD _ _ hj;refine⟨rfl,_,rfl,aj A n,C.cJ,dj,_,_,rfl,z7,T.kK,T.nJ _ zq_dk,JV.get _ (k:=0) rfl rfl,_,aa,?_,?_⟩
   .rw[ak];exact li (T_ _ _) (li o16 zq_dc)
   .rw[bn,mz,hn,dZ];rfl
 .subst e;rw[ak,km];have s4:=ae.new (o:=.aD (l.map λ n:Nat=>V.int (n:Int))) hD;refine⟨q,D,_,_,rfl,rfl,s4 _ _ hq3,aa,?_,λ r sU=>?_⟩
  .rw[ak];show 1+l.length<=2^24;omega
  .have st:=s2.trans (s3.trans (s4.trans (ae.new (o:=.aD ([V.int (l.length:Int)]++l.map λ n:Nat=>V.int (n:Int))) sU)));have IH:H1 r=none:=ae.bN (s2.trans (s3.trans s4)) sU;refine k r _ A rfl (M1.same st) (f1.trans (fP.same st)) (f1.bu r IH) (bL M1 IH) ?_;rw[aa];show some (HO.aD (V.int (l.length:Int)::l.map λ n:Nat=>V.int (n:Int)))=some (.aD ((Vbtkad.ints ((wY m).length::wY m)).map V.int));rw[<-hl];unfold Vbtkad.ints;rw[bB];rfl
theorem Rp{A:MA}{m:ax}:(MS.eI HT.lexLt (EH (Bg (jp (bw A m))))).map (·.2)=(C4 m).map λ i=>V.ref (aj A i):=by
 rw[G_,Al];refine gu λ i hi=>?_
 have uV:i∈iq (bw A m):=by rw[Al];exact hi
 have:=((Ad (bw A m)).2 i uV).1;rw[bM]at this;rw[fg this];rfl
theorem uz{m:ax}(W:jz m):(∀i∈C4 m,i<m.jobs.length)/\(C4 m).length<=16:=by
 rw[uu];have pm:=(lT HT.lexLt (((bf m.jobs.length).filter λ j=>(aX m j).stand==.asleep).map λ i=>(slK m i,i))).map mK;rw[bB,show(mK∘λ i=>(slK m i,i))=(id:Nat ->Nat) from rfl,uq]at pm;refine⟨λ i hi=>gB.mp (ii.mp (pm.mem_iff.mp hi)).1,?_⟩;rw[pm.length_eq];refine fB (G6 _ _) ?_;rw[ko];exact W.len
def Aw(m:ax)(ns row:List Int):ax×List Int:=cI m .sleepers
def Ax(m:ax)(l:List Nat):List Int:=Vbtkad.ints (l.flatMap λ j=>[j,(aX m j).wake])
theorem wZ(m:ax):∀l,(Ax m l).length=2*l.length
 |[]=>rfl
 |a::l=>by
  show((Ax m l).length+1)+1=2*(l.length+1);rw[wZ m l];omega
theorem Np{f Pt:Addr}{fd:bp}(F:bi K "sleepers" wx f fd)(T:Txt K mg C)(hP:wO C Pt EI)(D1:cF P w K mg base "sleepers_in_order" [b8] 7 (Mu C Pt)):
  bj P w K mg base CX0 8 f fd [b8,fb,c_] (dg C 0 Aw):=by
 refine F.ok [b8,fb,c_,"asleep","told",dL] λ b_ A0 aA s H vs Q E hr h nd=>?_
 obtain⟨A,m,na,ra,ns,row,rfl,M,iR,iP,Jj,Jk,bH,uX,mW,k⟩:=h;refine⟨_,ab (bg (i:=3) nd rfl (aH rfl) (al D1 hr rfl (aO (pv 0))))
  (ab (bg (i:=4) nd rfl (aH rfl) (a_ (aO (aY aW (by rfl) (T.bu _ zq_dk) eX (aO (pv 3))))))
  (ab (ee eY rfl (bF (pv 3)) (aU (i:=5) nd rfl (aH rfl)) (af (bz (iK jc pJ rL e_ (pv 4) (aO (a_ (bA (ai (pv 5) rfl) (ai (pv 5) rfl))))))))
  (af (aw (pv 4))))),?_⟩
 try dsimp only [bx,Cx.dJ]
 refine⟨_,rfl,A.ma,de A.la A.ra m,jp (bw A m),rfl,M.ok.dA,M.jobs,(by unfold jp;rw[ak,bM];exact M.wf.len),M.tb _ hP.1,λ H1 p sp Tb hp=>?_⟩;obtain⟨M1,f1⟩:=M.jb hP sp Tb;rw[Rp];obtain⟨ol,o16⟩:=uz M.wf;obtain⟨l,hl⟩:=bS (C4 m);rw[<-hl]at ol o16⊢;have s2:=ae.new (o:=.aD (l.map λ i=>V.ref (aj A i))) hp;obtain⟨H2,wX⟩:=bS (aS H1 p (.aD (l.map λ i=>V.ref (aj A i))));rw[<-wX]at s2⊢;have ou:H2 p=some (.aD (l.map λ i=>V.ref (aj A i))):=by rw[wX];exact aa
 refine⟨_,rfl,p,_,rfl,.inl (aP.of ou),bE,λ q hq=>?_⟩;rw[ak];have M2:=M1.same s2;refine⟨_,rfl,p,rfl,⟨_,aP.of (ae.new hq _ _ ou)⟩,eV (xs:=l.map λ i=>V.ref (aj A i)) (λ i σ H'=>ae H2 H'/\H' q=some (.aD (((l.length:Int)::Ax m (l.take i)).map V.int))/\∃x,σ=[some (.ref A.ma),some (.ref na),some (.ref ra),some (.ref p),some (.ref q),x]) ⟨ae.new hq,aa,⟨_,rfl⟩⟩ (λ i σ H' _ e=>aP.of (e.1 _ _ ou)) (λ i x σ H' hx e=>?_) (λ σ H' e=>?_)⟩
 .obtain⟨sh,DM,⟨u,rfl⟩⟩:=e;rw[aT]at hx;cases hn:l[i]?with
  |none=>rw[hn]at hx;cases hx
  |some n=>
   rw[hn]at hx;cases hx;have qE:=ol n (cH hn);obtain⟨_,⟨dj,hj⟩⟩:=(M2.same sh).job qE;refine⟨_,rfl,.inl ⟨rfl,_,aP.of DM⟩,_,rfl,aj A n,C.cJ,dj,_,_,rfl,hj,T.kK,T.nJ _ zq_dk,JV.get _ (k:=0) rfl rfl,_,rfl,aj A n,C.cJ,dj,_,_,rfl,hj,T.kK,T.nJ _ zq_dk,JV.get _ (k:=11) rfl rfl,eM,λ r sU=>?_⟩;refine⟨q,r,_,_,rfl,rfl,ae.new sU _ _ DM,aa,?_,?_⟩
   .rw[ak,iI,wZ];have:(l.take i).length<=16:=fB (T_ _ _) o16;show 2*(l.take i).length+1+2<=2^24;omega
   .refine⟨λ b o eb=>?_,?_,⟨_,rfl⟩⟩
    .rw[ag (aM eb hq)];exact ae.new sU _ _ (sh b o eb)
    .rw[aa,mz,hn];unfold Ax Vbtkad.ints;simp only[Option.toList,GD,dZ,dW];rfl
 .obtain⟨sh,DM,⟨u,rfl⟩⟩:=e;rw[ak,km]at DM;refine⟨_,rfl,?_⟩;have st:=s2.trans sh;have hq1:H1 q=none:=ae.bN s2 hq;refine k q _ A rfl (M1.same st) (f1.trans (fP.same st)) (f1.bu q hq1) (bL M1 hq1) ?_;rw[DM,hl];rfl
def E7(C:CA):Sp:=λ vs H Q _=>∃(A:MA)(m:ax),vs=[.ref A.ma]/\jr C H A m/\∀H',ae H H' ->Q (.bl (pZ m)) H'
theorem Rq(F:bi K "all_over" qk f fd)(T:Txt K mg C)(D1:cF P w K mg base "is_over" [dL] 1 (qo C)):bj P w K mg base CX0 2 f fd [b8] (E7 C):=by
 refine F.ok [b8,dL] λ b_ A0 aA s H vs Q E hr h nd=>?_
 obtain⟨A,m,rfl,M,k⟩:=h;obtain⟨d0,xU⟩:=M.ok.dA;refine⟨_,af (aw (aY (Em rfl) rfl (T.bu _ zq_dk) (show bootBuiltins "all"=some (.builtin "all") by decide+kernel)
  (aO (iL (own:=[("job",1)]) (tt:=jE) (te:=tCall (qo C) [] E0 (cB (bQ 1) ik)) rfl nd (bF (ai (pv 0) rfl)) (bP (by show gW [b8,dL] (aJ qk) _ _=true;decide+kernel)) (λ _ _ _ _ _=>by exact aU (i:=1) nd rfl (aH rfl)) (λ _ _ _ _ _=>by exact di) (λ _ _ _ _ _=>by exact al D1 hr rfl (aO (pv 1))))))),?_⟩
 try dsimp only [bx,Cx.dJ]
 have hl:=M.ok.aD;refine⟨_,rfl,A.ma,C.cM,d0,_,_,rfl,xU,T.iX,T.nM _ zq_dk,MV.get _ (k:=8) rfl rfl,A.la,rfl,⟨_,aP.of hl⟩,λ D hD=>?_⟩;refine qT (K:=K) (a:=A.la) (xs:=(bw A m).js.map λ q=>V.ref q.a) (λ i H'=>H'=aS H D (.aD ((m.jobs.take i).map λ x=>V.bl (gw x)))) rfl (λ i H' _ e=>?_) (λ i x H' hx e=>?_) (λ H' e=>?_)
 .subst e;exact aP.of (ae.new hD _ _ hl)
 .subst e;have jF:i<m.jobs.length:=by
   have:=(gM.mp hx).1;rwa[ak,bM]at this
  obtain⟨ej,⟨dj,hj⟩⟩:=M.job jF;rw[aT,ej]at hx;cases hx;have z7:=ae.new (o:=.aD ((m.jobs.take i).map λ x=>V.bl (gw x))) hD _ _ hj;refine⟨rfl,_,rfl,aj A i,_,rfl,⟨dj,z7⟩,_,aa,?_,?_⟩
  .rw[ak];exact li (T_ _ _) (li M.wf.len zq_dc)
  .rw[bn,mz,ay jF,dZ];have e1:aX m i=m.jobs[i]:=by
    unfold aX;rw[aG,ay jF];rfl
   have e2:=lY (aX m i).stand;have e3:V.bl (decide ((bZ i (A.ps.getD i 0) (aX m i)).aF=3)||decide ((bZ i (A.ps.getD i 0) (aX m i)).aF=4))=V.bl (gw m.jobs[i]):=by
    rw[<-e1];exact congrArg V.bl e2
   rw[e3];rfl
 .subst e;rw[ak,bM,km];refine⟨D,m.jobs.map gw,rfl,?_,?_⟩
  .rw[bB];exact aP.of aa
  .have:(m.jobs.map gw).all id=pZ m:=by
    rw[ua];rfl
   rw[this];exact k _ (ae.new hD)
theorem w6{m:ax}(h:pZ m=true):∀n,jd n m=m
 |0=>rfl
 |n+1=>by
  show(if pZ m=true then m else _)=m;rw[au h]
theorem w8{m:ax}(h:¬pZ m=true)(n:Nat):jd (n+1) m=jd n (wU m):=by
 show(if pZ m=true then m else _)=_;rw[ao h]
def mu3(n:Nat):L2.St ->Nat
 |[_,_,some (.int g)]=>n -g.toNat
 |_=>0
def E8(C:CA):Sp:=λ vs H Q _=>∃(A:MA)(m:ax)(n:Nat),vs=[.ref A.ma,.int (n:Int)]/\jr C H A m/\m.now+n<=50000/\∀(g:Nat) H',g<=n ->jd n m=fj g m ->jr C H' A (fj g m) ->fP C A A H H' ->Q (.int (g:Int)) H'
theorem Rr(F:bi K "run_until_over" ls f fd)(T:Txt K mg C)(D2:cF P w K mg base "tick" [b8] 9 (ET C))(D3:cF P w K mg base "all_over" [b8] 2 (E7 C)):
  bj P w K mg base CX0 10 f fd [b8,"most"] (E8 C):=by
 refine F.ok [b8,"most","gone"] λ b_ A0 aA s H vs Q E hr h nd=>?_
 obtain⟨A,m,n,rfl,M,uX,k⟩:=h;refine⟨_,ab (bg (i:=2) nd rfl (aH rfl) am)
  (ab (nu eY (PW.pt (qd (aI tV (pv 2) (pv 1) (aR _)) (lI (dw (cx (al D3 (hr.bI zq_dc) rfl (aO (pv 0)))))))) (ab (bz (al D2 hr rfl (aO (pv 0)))) (af (D_ (i:=2) nd rfl (aH rfl) am vN))))
  (af (aw (pv 2)))),?_⟩
 try dsimp only [bx,Cx.dJ]
 refine Bt (λ σ H2=>∃g:Nat,g<=n/\σ=[some (.ref A.ma),some (.int (n:Int)),some (.int (g:Int))]/\jr C H2 A (fj g m)/\fP C A A H H2/\jd n m=jd (n -g) (fj g m)) (λ σ _=>mu3 n σ) ⟨0,ia _,rfl,M,fP.refl,rfl⟩ (λ σ H2 p=>?_) (λ σ H2 Q1 Q2 hq hc=>?_)
 .obtain⟨g,hgn,rfl,M2,f2,eu⟩:=p;refine⟨_,rfl,_,rfl,_,_,rfl,rfl,_,rfl,?_⟩;obtain⟨W2,nw⟩:=iQ g M.wf;by_cases dC:g<n
  .refine gk (bO (show(g:Int)<(n:Int) by omega)) ?_;refine⟨_,rfl,A,fj g m,rfl,M2,λ H3 s3=>⟨_,rfl,?_⟩⟩;have M3:=M2.same s3;cases ha:pZ (fj g m)with
   |true=>
    refine gg rfl ?_;rw[w6 ha]at eu;exact⟨_,rfl,k g H3 hgn eu M3 (f2.trans (fP.same s3))⟩
   |false=>
    refine gk rfl ?_;refine⟨_,rfl,A.ma,_,rfl,M3.ok,Ak W2,M3.tb,?_,λ H4 O4 T4 F4 a4=>?_⟩
    .show((fj g m).who.map fJ).length<100000;rw[ak,W2.who,nw];omega
    .obtain⟨M4,f4⟩:=M3.Ng O4 T4 F4 a4;rw[<-lX]at M4;refine⟨_,rfl,_,_,rfl,rfl,⟨g+1,dC,rfl,M4,f2.trans ((fP.same s3).trans f4),?_⟩,?_⟩
     .rw[eu,show n -g=(n -(g+1))+1 by omega,w8 (by rw[ha];decide),<-lX]
     .show n -((g:Int)+1).toNat<n -(g:Int).toNat;omega
  .refine gg (gh (show¬(g:Int)<(n:Int) by omega)) ?_;refine gg rfl ?_;have e0:n -g=0:=by omega
   rw[e0]at eu;exact⟨_,rfl,k g H2 hgn eu M2 f2⟩
 .obtain⟨v,e1,v2,e2,i2,i3,q5,q6,b,q7,q⟩:=hc;refine⟨v,e1,v2,e2,i2,i3,q5,q6,b,q7,?_⟩;cases b with
  |false=>
   refine gg rfl ?_;rw[ao zq_dc]at q;exact hq _ _ q
  |true=>
   refine gk rfl ?_;rw[au rfl]at q;obtain⟨v3,e3,A2,m2,e4,M5,hk⟩:=q;refine⟨v3,e3,A2,m2,e4,M5,λ H5 s5=>?_⟩;obtain⟨c,ec,qc⟩:=hk H5 s5;exact⟨c,ec,hq _ _ qc⟩
def oy(m:ax)(ns row:List Int):ax×List Int:=
 if c7 m (.untilOver (ns.getD 0 0))=true then cI m (.untilOver (ns.getD 0 0))else(m,[-2])
theorem Nq(F:bi K "until_over" rA f fd)(T:Txt K mg C)(U:cQ K mg)(D1:Jf P w K mg base)(D2:cF P w K mg base "run_until_over" [b8,"most"] 10 (E8 C))(D3:cF P w K mg base "all_over" [b8] 2 (E7 C)):
  bj P w K mg base CX0 11 f fd [b8,fb,c_] (dg C 1 oy):=by
 refine F.ok [b8,fb,c_,"gone"] λ b_ A0 aA s H vs Q E hr h nd=>?_
 obtain⟨A,m,na,ra,ns,row,rfl,M,iR,iP,Jj,Jk,bH,uX,mW,k⟩:=h;obtain⟨tr,yf,hR⟩:=U.row ("UNTIL_OVER_RANGES",[(1,1000)]) zq_dk;have rc:=fh bH;refine⟨_,ab (br (dw (cx (al D1 (hr.bI zq_dc) rfl (bA (pv 1) (b9 (v:=.ref tr) rfl yf rfl))))) (af (aw (a_ (aO (cN (cQ.i U (n:=-2) zq_dk) rfl))))) aK)
  (ab (br (aI kZ (bG eh (ai (pv 0) rfl) (bK be (pv 1) am (λ _ _=>rfl))) (cN (cQ.i U (n:=3000) zq_dk) rfl) (aR _)) (af (aw (a_ (aO (cN (cQ.i U (n:=-5) zq_dk) rfl))))) aK)
  (ab (bg (i:=3) nd rfl (aH rfl) (al D2 hr rfl (bA (pv 0) (bK be (pv 1) am (λ _ _=>rfl)))))
  (af (aw (a_ (bA (qG (cx (al D3 (hr.bI zq_dc) rfl (aO (pv 0)))) am am) (pv 3))))))),?_⟩
 try dsimp only [bx,Cx.dJ]
 refine⟨_,rfl,na,tr,ns,[(1,1000)],rfl,aP.of iR,hR H,bH,λ H1 s1=>?_⟩;have hw:withinAll ns [(1,1000)]=bJ (ns.getD 0 0) 1 1000:=by
  rw[rc];show(bC (ns.getD 0 0) (1,1000)&&true)=_;rw[kq];rfl
 have M1:=M.same s1;have g9:=s1 _ _ iR;obtain⟨d1,qC⟩:=M1.ok.dA;refine⟨_,rfl,?_⟩;rw[hw];have i9:c7 m (.untilOver (ns.getD 0 0))=bJ (ns.getD 0 0) 1 1000:=rfl;cases hb:bJ (ns.getD 0 0) 1 1000 with
 |false=>
  have hg:oy m ns row=(m,[-2]):=by unfold oy;rw[i9,hb];rfl
  rw[hg]at k;refine⟨bE,λ p hp=>?_⟩;exact k p _ A rfl (M1.same (ae.new hp)) (fP.new (fP.same s1) hp) (ae.bN s1 hp) (bL M1 hp) (by rw[aa];rfl)
 |true=>
 have hg:oy m ns row=cI m (.untilOver (ns.getD 0 0)):=by unfold oy;rw[i9,hb];rfl
 rw[hg]at k;obtain⟨b1,b2⟩:1<=ns.getD 0 0/\ns.getD 0 0<=1000:=by
  unfold bJ at hb;simpa using hb
 obtain⟨n,hn⟩:∃n:Nat,ns.getD 0 0=n:=⟨(ns.getD 0 0).toNat,ah⟩;have jY:ml (ns.map V.int) (0:Int)=some (.int (n:Int)):=by
  rw[<-hn];exact cA (k:=0) ah
 refine⟨_,rfl,A.ma,C.cM,d1,_,_,rfl,qC,T.iX,T.nM _ zq_dk,MV.get _ (k:=4) rfl rfl,_,rfl,na,_,_,_,rfl,rfl,aP.of g9,jY,_,_,rfl,rfl,_,_,rfl,rfl,_,rfl,?_⟩;have hd:cI m (.untilOver (ns.getD 0 0))=if 3000<m.now+n then(m,[-5])else(jd n m,[if pZ (jd n m)=true then 1 else 0,(((jd n m).now -m.now:Nat):Int)]):=by
  rw[hn];show(if wV<m.now+((n:Nat):Int).toNat then _ else _)=_;rw[k9];rfl
 rw[hd]at k;by_cases C0:3000<m.now+n
 .refine gk (bO (show(3000:Int)<(m.now:Int)+(n:Int) by omega)) ?_;rw[au C0]at k;refine⟨bE,λ p hp=>?_⟩;exact k p _ A rfl (M1.same (ae.new hp)) (fP.new (fP.same s1) hp) (ae.bN s1 hp) (bL M1 hp) (by rw[aa];rfl)
 .refine gg (gh (show¬(3000:Int)<(m.now:Int)+(n:Int) by omega)) ?_;rw[ao C0]at k;refine⟨_,rfl,_,rfl,na,_,_,_,rfl,rfl,aP.of g9,jY,A,m,n,rfl,M1,ah,λ g H2 hgn eu M2 f2=>?_⟩;have f2':=(fP.same s1).trans f2;rw[eu,(iQ g M.wf).2]at k;have fin:∀(z:Int),(if pZ (fj g m)=true then(1:Int)else 0)=z ->∀H3,ae H2 H3 ->∀p,H3 p=none ->Q (.ref p) (aS H3 p (.aD [.int z,.int (g:Int)])):=λ z hz H3 s3 p hp=>by
   have ou:=ae.bN s3 hp;refine k p _ A rfl ((M2.same s3).same (ae.new hp)) (f2'.trans (fP.same (s3.trans (ae.new hp)))) (f2'.bu p ou) (bL M2 ou) ?_;rw[aa,show m.now+g -m.now=g by omega,hz];rfl
  refine⟨_,rfl,A,_,rfl,M2,λ H3 s3=>⟨_,rfl,?_⟩⟩;cases ha:pZ (fj g m)with
  |true=>exact gk rfl ⟨_,rfl,eM,λ p hp=>fin 1 (by rw[ha];rfl) H3 s3 p hp⟩
  |false=>exact gg rfl ⟨_,rfl,eM,λ p hp=>fin 0 (by rw[ha];rfl) H3 s3 p hp⟩
end
end JS
namespace ZL
open PySem
open Sem (wp)
open ZS (IsZS callTypeK initK tCall nCall iArgs ne_list_item ne_list_end)
section
variable{prog:dz}{w:c9}{A:cw}{E:aq ->ap ->Prop}{s:ap}
abbrev QC(h:Heap)(l1:Addr):Heap:=h.push {cls:=.type "list_iterator",data:=.fields #[.ref l1,.int 0 0]}
abbrev QD(h:Heap)(l1 l2:Addr):Heap:=(QC h l1).push {cls:=.type "list_iterator",data:=.fields #[.ref l2,.int 0 0]}
abbrev QE(h:Heap)(l1 l2:Addr):Heap:=(QD h l1 l2).push {cls:=.type "tuple",data:=.seq #[.ref h.objs.size,.ref (QC h l1).objs.size]}
abbrev QF(h:Heap)(l1 l2:Addr):Heap:=(QE h l1 l2).push {cls:=.type "tuple",data:=.seq #[.none,.none]}
abbrev Ey(h:Heap)(l1 l2:Addr):Heap:=(QF h l1 l2).push {cls:=.type "zip",data:=.fields #[.none,.bool false,.bool true,.ref (QD h l1 l2).objs.size,.ref (QE h l1 l2).objs.size]}
theorem wk(l1 l2:Addr)(xs ys:Array aq):
  BA (Builtin.«zip.__new__» ⟨[.type "zip",.ref l1,.ref l2],[(cZ "strict",.bool true)]⟩) (λ _ R s=>s.heap.IsList l1 xs/\s.heap.IsList l2 ys/\
   R (.ok (.ret (.ref (QF s.heap l1 l2).objs.size))) {s with heap:=Ey s.heap l1 l2}):=
 .of_wp λ prog w A R s h=>by
  obtain⟨hp,g,d,tk,os⟩:=s;obtain⟨pj,mX,h⟩:=h;have Zu:=sub_zip;have hL1:Tr (LO ⟨hp,g,d,tk,os⟩) l1 xs:=pj;have hL2:Tr (LO ⟨hp.push {cls:=.type "list_iterator",data:=.fields #[.ref l1,.int 0 0]},g,d,tk,os⟩) l2 ys:=Heap.IsList.push mX _
  wp_walk using Im hL1,Im hL2
  exact⟨_,rfl,h⟩
theorem sP{l1 l2:Addr}{xs ys:Array aq}{Q:aq ->ap ->Prop}(pj:s.heap.IsList l1 xs)(mX:s.heap.IsList l2 ys)
  (h:∀h',IsZS h' (s.heap.objs.size+4) (s.heap.objs.size+2) (s.heap.objs.size+3) .none ->cD h' (s.heap.objs.size+2) (.ref s.heap.objs.size) (.ref (s.heap.objs.size+1)) ->
   cD h' (s.heap.objs.size+3) .none .none ->h'.IsListIter s.heap.objs.size l1 0 ->h'.IsListIter (s.heap.objs.size+1) l2 0 ->h'.objs.size=s.heap.objs.size+5 ->
   (∀c o,s.heap.get? c=some o ->h'.get? c=some o) ->Q (.ref (s.heap.objs.size+4)) {s with heap:=h'}):
  wpAny (model prog w) A (call (.type "zip") [.ref l1,.ref l2] [(cZ "strict",.bool true)]) Q E s:=by
 refine callTypeK (Q1:=λ obj s1=>s1.TypeIs obj "zip"/\Q obj s1) Ca (tCall _ _) (nCall _ _) Zx Zy (wk l1 l2 xs ys) ⟨pj,mX,?_⟩
  λ obj _ hq=>⟨hq.1,iArgs obj _ _,_,initK Ca.init.lookup Ca.made zq_dc,hq.1,rfl,hq.2⟩
 have z1:(QC s.heap l1).objs.size=s.heap.objs.size+1:=fD ..;have z2:(QD s.heap l1 l2).objs.size=s.heap.objs.size+2:=by rw[fD,z1]
 have z3:(QE s.heap l1 l2).objs.size=s.heap.objs.size+3:=by rw[fD,z2]
 have z4:(QF s.heap l1 l2).objs.size=s.heap.objs.size+4:=by rw[fD,z3]
 have z5:(Ey s.heap l1 l2).objs.size=s.heap.objs.size+5:=by rw[fD,z4]
 have g5:(Ey s.heap l1 l2).get? (QF s.heap l1 l2).objs.size=some _:=fN _ rfl;have g4:(Ey s.heap l1 l2).get? (QE s.heap l1 l2).objs.size=some _:=cf _ (fN _ rfl);have g3:(Ey s.heap l1 l2).get? (QD s.heap l1 l2).objs.size=some _:=cf _ (cf _ (fN _ rfl));have g2:(Ey s.heap l1 l2).get? (QC s.heap l1).objs.size=some _:=cf _ (cf _ (cf _ (fN _ rfl)));have g1:(Ey s.heap l1 l2).get? s.heap.objs.size=some _:=cf _ (cf _ (cf _ (cf _ (fN _ rfl))));show _/\_;rw[z2,z3,z4]at g5;rw[z1,z2]at g3;rw[z3]at g4;rw[z1]at g2;rw[z4];exact⟨⟨_,g5,rfl⟩,h _ g5 g3 g4 ⟨_,g1,rfl,rfl⟩ ⟨_,g2,rfl,rfl⟩ z5 λ c o x=>
  cf _ (cf _ (cf _ (cf _ (cf _ x))))⟩
theorem sQ{z TI TO i1 i2 l1 l2:Addr}{k1 k2:Nat}{xs ys:Array aq}{x y a b:aq}{Q:aq ->ap ->Prop}(D:rf z TI TO i1 i2 l1 l2)
  (hz:IsZS s.heap z TI TO .none) (lM:cD s.heap TI (.ref i1) (.ref i2)) (nY:cD s.heap TO a b)
  (h1:s.heap.IsListIter i1 l1 k1) (h2:s.heap.IsListIter i2 l2 k2) (pj:s.heap.IsList l1 xs) (mX:s.heap.IsList l2 ys) (hx:xs[k1]?=some x) (hy:ys[k2]?=some y)
  (hQ:∀h',IsZS h' z TI TO (rawInt s.heap.objs.size) ->cD h' TO x y ->h'.IsListIter i1 l1 (k1+1) ->h'.IsListIter i2 l2 (k2+1) ->cD h' s.heap.objs.size x y ->h'.objs.size=s.heap.objs.size+1 ->
   (∀c o,c≠z ->c≠TO ->c≠i1 ->c≠i2 ->s.heap.get? c=some o ->h'.get? c=some o) ->Q (.ref s.heap.objs.size) {s with heap:=h'}):
  wpAny (model prog w) A (Builtin.«zip.__next__» ⟨[.ref z],[]⟩) (λ fin s'=>∃v,fin=.done (.ret v)/\Q v s') E s:=by
 show wpAny _ _ (field (.ref z) 2>>=_) _ _ _;refine az (g0 hz rfl (x:=.bool true) rfl ?_);show wpAny _ _ (field (.ref z) 3>>=_) _ _ _;refine az (g0 hz rfl (x:=.ref TI) rfl ?_);refine az (iM lM rfl ?_);show wpAny _ _ (wl (.ref z)>>=_) _ _ _;refine az ?_;unfold wl;refine az (g0 hz rfl (x:=.none) rfl (bY ?_));simp only[mo];refine az (pN ?_);refine az (g0 hz rfl (x:=.ref TO) rfl ?_);refine az (pP hz aL λ h₁ EB wm=>?_)
 replace EB:IsZS h₁ z TI TO .ellipsis:=EB
 refine az ?_;simp only[LU,LV,v4,ub];refine az (az (Ce ?_));show wpAny _ _ (jJ (.ref i1)) _ _ _;refine ne_list_item (h1.extBut wm.extBut D.i1z) (pj.extBut wm.extBut D.l1z) hx λ h₂ h1₂ z8=>?_
 have LW:cD h₂ TO a b:=z8.extBut _ _ D.TOi1 (wm.extBut _ _ D.TOz nY);refine az (iM LW rfl ?_);refine az (LX LW λ h₃ EC Cf=>?_)
 replace EC:cD h₃ TO x b:=EC
 refine az (mr (bY ?_));refine az (az (Ce ?_));show wpAny _ _ (jJ (.ref i2)) _ _ _;refine ne_list_item (((h2.extBut wm.extBut D.i2z).extBut z8.extBut D.i12.symm).extBut Cf.extBut D.TOi2.symm)
  (((mX.extBut wm.extBut D.l2z).extBut z8.extBut D.l2i1).extBut Cf.extBut D.l2TO) hy λ h₄ h2₄ ED=>?_
 have LY:cD h₄ TO x b:=ED.extBut _ _ D.TOi2 EC;refine az (iM LY rfl ?_);refine az (LX LY λ h₅ z9 LZ=>?_)
 replace z9:cD h₅ TO x y:=z9
 refine az (mr (bY (bY ?_)));refine az (iM z9 rfl ?_);refine az (Tq ?_);have hsz:h₅.objs.size=s.heap.objs.size:=by rw[LZ.1,ED.1,Cf.1,z8.1,wm.1]
 have ZD:IsZS h₅ z TI TO .ellipsis:=LZ.extBut _ _ D.TOz.symm (ED.extBut _ _ D.i2z.symm (Cf.extBut _ _ D.TOz.symm (z8.extBut _ _ D.i1z.symm EB)));have hk₅:∀c o,c≠z ->c≠TO ->c≠i1 ->c≠i2 ->s.heap.get? c=some o ->h₅.get? c=some o:=λ c o c1 c2 c3 c4 e=>
  LZ.extBut _ _ c2 (ED.extBut _ _ c4 (Cf.extBut _ _ c2 (z8.extBut _ _ c3 (wm.extBut _ _ c1 e))))
 have h1₅:h₅.IsListIter i1 l1 (k1+1):=((h1₂.extBut Cf.extBut D.TOi1.symm).extBut ED.extBut D.i12).extBut LZ.extBut D.TOi1.symm;have h2₅:h₅.IsListIter i2 l2 (k2+1):=h2₄.extBut LZ.extBut D.TOi2.symm;have L1:z<h₅.objs.size:=dB ZD;show wpAny _ _ (L_ (.ref z) (.ref h₅.objs.size)>>=_) _ _ _;refine az ?_;unfold L_;have hz₆:IsZS (h₅.push {cls:=.type "tuple",data:=.seq #[x,y]}) z TI TO .ellipsis:=cf _ ZD;refine az (pP hz₆ aL λ h₇ VF VG=>?_)
 replace VF:IsZS h₇ z TI TO (rawInt h₅.objs.size):=VF
 refine pP VF aL λ h₈ QG VH=>?_
 replace QG:IsZS h₈ z TI TO (rawInt h₅.objs.size):=QG
 have up:∀c o,c≠z ->h₅.get? c=some o ->h₈.get? c=some o:=λ c o c1 e=>VH.extBut _ _ c1 (VG.extBut _ _ c1 (cf _ e))
 have ZE:cD h₈ h₅.objs.size x y:=VH.extBut _ _ (zK L1) (VG.extBut _ _ (zK L1) (fN _ rfl));have ZF:h₈.objs.size=h₅.objs.size+1:=by rw[VH.1,VG.1,fD]
 rw[hsz]at QG ZE ZF;refine bY ⟨_,rfl,?_⟩;show Q (.ref h₅.objs.size) _;rw[hsz];exact hQ h₈ QG (up _ _ D.TOz z9) (h1₅.at λ o e=>up _ o D.i1z e) (by obtain⟨o,e,r⟩:=h2₅;exact⟨o,up _ o D.i2z e,r⟩) ZE ZF λ c o c1 c2 c3 c4 e=>up c o c1 (hk₅ c o c1 c2 c3 c4 e)
theorem wn{z TI TO i1 i2 l1 l2:Addr}{k1 k2:Nat}{xs ys:Array aq}{a b:aq}{Q:GS ->ap ->Prop}(hh:A.handled=none)(D:rf z TI TO i1 i2 l1 l2)
  (hz:IsZS s.heap z TI TO .none) (lM:cD s.heap TI (.ref i1) (.ref i2)) (nY:cD s.heap TO a b)
  (h1:s.heap.IsListIter i1 l1 k1) (h2:s.heap.IsListIter i2 l2 k2) (pj:s.heap.IsList l1 xs) (mX:s.heap.IsList l2 ys) (hx:xs[k1]?=none) (hy:ys[k2]?=none)
  (hE:∀h' e,(∀c o,c≠z ->c≠TO ->c≠i1 ->c≠i2 ->s.heap.get? c=some o ->h'.get? c=some o) ->(∃o,h'.get? e=some o/\o.cls=.type "StopIteration") ->E (.ref e) {s with heap:=h'}):
  wpAny (model prog w) A (Builtin.«zip.__next__» ⟨[.ref z],[]⟩) Q E s:=by
 show wpAny _ _ (field (.ref z) 2>>=_) _ _ _;refine az (g0 hz rfl (x:=.bool true) rfl ?_);show wpAny _ _ (field (.ref z) 3>>=_) _ _ _;refine az (g0 hz rfl (x:=.ref TI) rfl ?_);refine az (iM lM rfl ?_);show wpAny _ _ (wl (.ref z)>>=_) _ _ _;refine az ?_;unfold wl;refine az (g0 hz rfl (x:=.none) rfl (bY ?_));simp only[mo];refine az (pN ?_);refine az (g0 hz rfl (x:=.ref TO) rfl ?_);refine az (pP hz aL λ h₁ EB wm=>?_)
 replace EB:IsZS h₁ z TI TO .ellipsis:=EB
 refine az ?_;simp only[LU,LV,v4,ub];refine az (az (Ce ?_));show wpAny _ _ (jJ (.ref i1)) _ _ _;refine ne_list_end hh (h1.extBut wm.extBut D.i1z) (pj.extBut wm.extBut D.l1z) hx λ h₂ z8=>?_
 dsimp only;have hz₂:IsZS h₂ z TI TO .ellipsis:=z8 _ _ D.i1z.symm EB;refine az (pP hz₂ aL λ h₃ hz₃ Cf=>?_);refine az ?_;show wpAny _ _ (forIn [((ji i2:aq),1)] _ _>>=_) _ _ _;rw[v4];refine az (az ?_);show wpAny _ _ (jJ (.ref i2)>>=_) _ _ _;have c2:∀c o,c≠z ->c≠i1 ->s.heap.get? c=some o ->h₃.get? c=some o:=λ c o n1 n2 e=>Cf.extBut _ _ n1 (z8 _ _ n2 (wm.extBut _ _ n1 e))
 have mY:h₃.IsListIter i2 l2 k2:=by obtain⟨o,e,r⟩:=h2;exact⟨o,c2 _ _ D.i2z D.i12.symm e,r⟩
 have VI:h₃.IsList l2 ys:=by obtain⟨o,e,r⟩:=mX;exact⟨o,c2 _ _ D.l2z D.l2i1 e,r⟩
 refine az (ne_list_end hh mY VI hy λ h₄ ED=>?_);simp only[ZG,v6,pH];refine bY ?_;dsimp only;rw[ub];refine bY ?_;refine az (pN ?_);show wpAny _ _ (newExc (.type "StopIteration") []>>=_) _ _ _;refine az ?_;simp only[newExc,newTuple];refine az (yJ ?_ (by size_fits));refine az (m:=firstArgMember _ _) (B2 (a:=xV) (by first|rfl|(simp only [firstArgMember];rfl)) ?_);refine yJ ?_ (by size_fits);simp only[raiseNew];refine az (Tt ?_)
 first|rw[show A.in1.handled=none from hh]|rw[hh]
 refine az (bY (Tu ?_));refine hE _ _ (λ c o n1 n2 n3 n4 e=>cf _ (cf _ (ED _ _ n4 (c2 _ _ n1 n3 e)))) ⟨_,fN _ rfl,rfl⟩
theorem sR{z TI TO i1 i2 l1 l2:Addr}{k1 k2:Nat}{xs ys:Array aq}{x y a b:aq}{Q:Option aq ->ap ->Prop}(D:rf z TI TO i1 i2 l1 l2)
  (hz:IsZS s.heap z TI TO .none) (lM:cD s.heap TI (.ref i1) (.ref i2)) (nY:cD s.heap TO a b)
  (h1:s.heap.IsListIter i1 l1 k1) (h2:s.heap.IsListIter i2 l2 k2) (pj:s.heap.IsList l1 xs) (mX:s.heap.IsList l2 ys) (hx:xs[k1]?=some x) (hy:ys[k2]?=some y)
  (hQ:∀h',IsZS h' z TI TO (rawInt s.heap.objs.size) ->cD h' TO x y ->h'.IsListIter i1 l1 (k1+1) ->h'.IsListIter i2 l2 (k2+1) ->cD h' s.heap.objs.size x y ->h'.objs.size=s.heap.objs.size+1 ->
   (∀c o,c≠z ->c≠TO ->c≠i1 ->c≠i2 ->s.heap.get? c=some o ->h'.get? c=some o) ->Q (some (.ref s.heap.objs.size)) {s with heap:=h'}):
  wpAny (model prog w) A (pyNext (.ref z)) Q E s:=by
 have hT:s.TypeIs (.ref z) "zip":=⟨_,hz,rfl⟩;unfold pyNext;exact az (uf (Cc (name:=cZ "__next__") hT ug
  (yY ug hT Ma
   (sQ D hz lM nY h1 h2 pj mX hx hy λ h' a1 a2 a3 a4 a5 a6 a7=>bY (hQ h' a1 a2 a3 a4 a5 a6 a7)) (Mb _))))
theorem wo{z TI TO i1 i2 l1 l2:Addr}{k1 k2:Nat}{xs ys:Array aq}{a b:aq}{Q:Option aq ->ap ->Prop}(hh:A.handled=none)(D:rf z TI TO i1 i2 l1 l2)
  (hz:IsZS s.heap z TI TO .none) (lM:cD s.heap TI (.ref i1) (.ref i2)) (nY:cD s.heap TO a b)
  (h1:s.heap.IsListIter i1 l1 k1) (h2:s.heap.IsListIter i2 l2 k2) (pj:s.heap.IsList l1 xs) (mX:s.heap.IsList l2 ys) (hx:xs[k1]?=none) (hy:ys[k2]?=none)
  (hQ:∀h',(∀c o,c≠z ->c≠TO ->c≠i1 ->c≠i2 ->s.heap.get? c=some o ->h'.get? c=some o) ->Q none {s with heap:=h'}):wpAny (model prog w) A (pyNext (.ref z)) Q E s:=by
 have hT:s.TypeIs (.ref z) "zip":=⟨_,hz,rfl⟩;unfold pyNext;refine az (uf (Cc (name:=cZ "__next__") hT ug
  (yY ug hT Ma (wn hh D hz lM nY h1 h2 pj mX hx hy λ h' e hk he=>?_) (Mb _))))
 obtain⟨o,ho,hc⟩:=he;refine az (LP (T:="StopIteration") (b:=true) ⟨o,ho,hc⟩ LQ ?_);exact bY (hQ _ hk)
end
end ZL
namespace L2
open PySem PySem.Spec PyProof.Rows
def We(K:aE)(a b:Addr):It:=
 ⟨λ i H=>∃(xs ys:List V)(x y:V),aP K H a xs/\aP K H b ys/\xs[i]?=some x/\ys[i]?=some y,
  λ i H v H'=>∃T x y,v=.ref T/\H T=none/\H'=aS H T (.fc [x,y])/\(∀xs,aP K H a xs ->xs[i]?=some x)/\∀ys,aP K H b ys ->ys[i]?=some y,
  λ i H=>∃xs ys:List V,aP K H a xs/\aP K H b ys/\xs.length<=i/\ys.length<=i⟩
theorem Jn{P:dz}{w:c9}{K:aE}{sM:List Expr}{kk:Nat}{pb:Pos}{a b z TI TO i1 i2:Addr}(D:rf z TI TO i1 i2 a b):
  Br P w K (.Tuple sM kk pb) (We K a b) [z,TI,TO,i1,i2] z (λ i h=>ZS.IsZS h z TI TO .none/\cD h TI (.ref i1) (.ref i2)/\(∃x y,cD h TO x y)/\h.IsListIter i1 a i/\h.IsListIter i2 b i)where
 mem:=by simp
 obj:=λ i h st c hc=>by
  obtain⟨hz,lM,⟨x,y,nY⟩,⟨o1,e1,_,d1⟩,⟨o2,e2,_,d2⟩⟩:=st;have e':c=z\/c=TI\/c=TO\/c=i1\/c=i2:=by simpa using hc
  rcases e' with q|q|q|q|q
  .rw[q];exact⟨_,hz,λ v q=>nomatch q⟩
  .rw[q];exact⟨_,lM,λ v q=>nomatch q⟩
  .rw[q];exact⟨_,nY,λ v q=>nomatch q⟩
  .rw[q];exact⟨o1,e1,λ v q=>by rw[d1]at q;cases q⟩
  .rw[q];exact⟨o2,e2,λ v q=>by rw[d2]at q;cases q⟩
 keep:=λ i h h' st k=>by
  obtain⟨hz,lM,⟨x,y,nY⟩,h1,⟨o2,e2,r2⟩⟩:=st;exact⟨k z aL _ hz,k TI aL _ lM,⟨x,y,k TO aL _ nY⟩,h1.at λ o q=>k i1 aL o q,⟨o2,k i2 aL _ e2,r2⟩⟩
 item:=by
  intro X hP hw hK hc i pins s σ H E I hf st hg;subst hP hw hK;obtain⟨hz,lM,⟨x0,y0,nY⟩,h1,h2⟩:=st;obtain⟨xs,ys,x,y,IM,IN,hx,hy⟩:=hg;obtain⟨bb,rv,p,_⟩:=I.list IM;obtain⟨mT,QH,p2,_⟩:=I.list IN;obtain⟨u,hu,ru⟩:=rv.get hx;obtain⟨u2,hu2,ru2⟩:=QH.get hy;have LM:z<s.heap.objs.size:=dB hz;refine ZL.sR D hz lM nY h1 h2 p.isList p2.isList (x:=u) (y:=u2) (by simpa using hu) (by simpa using hu2) λ h' z' TO' fZ mY hT hsz hk=>?_
  refine⟨_,rfl,ZS.go (s:={s with heap:=h'}) z' λ Kf ZI sb=>?_⟩;have YU:Kf.get? s.heap.objs.size=some {cls:=.type "tuple",data:=.seq #[u,u2]}:=(sb.2 _ (zK LM)).trans hT;have new:gm X.prog X.w (aS H s.heap.objs.size (.fc [x,y])) Kf s.heap.objs.size (.fc [x,y]):=
   ⟨by show 2<=sizeLine;decide,[u,u2],.cons ru (.cons ru2 .nil),⟨_,YU,rfl,_,rfl⟩⟩
  have I1:aZ X pins σ (aS H s.heap.objs.size (.fc [x,y])) {s with heap:=Kf}:=
   I.sK (t':=s.toks) (ch:=[z,TI,TO,i1,i2]) (λ c o hb q=>(sb.2 c (λ q'=>hb (by simp[q']))).trans (hk c o (λ q'=>hb (by simp[q'])) (λ q'=>hb (by simp[q'])) (λ q'=>hb (by simp[q'])) (λ q'=>hb (by simp[q'])) q)) hf (ci _) new
  refine⟨.ref s.heap.objs.size,_,I1,rfl,⟨_,x,y,rfl,I.db.fresh (ci _),rfl,λ l hl=>by rw[I.nc hl IM];exact hx,λ l hl=>by rw[I.nc hl IN];exact hy⟩,⟨ZI,?_,⟨u,u2,?_⟩,?_,?_⟩,λ c Md=>?_⟩
  .exact(sb.2 _ D.TIz).trans (hk _ _ D.TIz D.TITO D.TIi1 D.TIi2 lM)
  .exact(sb.2 _ D.TOz).trans TO'
  .exact fZ.at λ o q=>(sb.2 _ D.i1z).trans q
  .obtain⟨o2,e2,r2⟩:=mY;exact⟨o2,(sb.2 _ D.i2z).trans e2,r2⟩
  .have dC:c<s.heap.objs.size:=by
    have e':c=z\/c=TI\/c=TO\/c=i1\/c=i2:=by simpa using Md
    rcases e' with q|q|q|q|q
    .rw[q];exact LM
    .rw[q];exact dB lM
    .rw[q];exact dB nY
    .rw[q];obtain⟨_,e1,_⟩:=h1;exact dB e1
    .rw[q];obtain⟨_,e2,_⟩:=h2;exact dB e2
   rw[ag (jj dC)];exact(hf c Md).1
 done:=by
  intro X hP hw hK hc i pins s σ H E I hf st hg;subst hP hw hK;obtain⟨hz,lM,⟨x0,y0,nY⟩,h1,h2⟩:=st;obtain⟨xs,ys,IM,IN,l1,l2⟩:=hg;obtain⟨bb,rv,p,_⟩:=I.list IM;obtain⟨mT,QH,p2,_⟩:=I.list IN;have n1:=rv.length;have n2:=QH.length;exact ZL.wo (I.ok.hd hc) D hz lM nY h1 h2 p.isList p2.isList i6 i6 λ h' hk=>⟨rfl,I.dq (t':=s.toks) (ch:=[z,TI,TO,i1,i2]) (λ c o hb q=>
   hk c o (λ q'=>hb (by simp[q'])) (λ q'=>hb (by simp[q'])) (λ q'=>hb (by simp[q'])) (λ q'=>hb (by simp[q'])) q) hf⟩
 self:=λ A i s Q E st h=>ZS.iter st.1 h
def aaN(K:aE)(ta:TA):TI:=λ σ H R=>ta σ H λ vs H1=>∃a b xs ys,vs=[.ref a,.ref b]/\aP K H1 a xs/\aP K H1 b ys/\R (We K a b) H1
theorem Hv{X:Cx}{e e2:Expr}{ta:TA}{p pos pb kp cp:Pos}{j:Nat}{sM:List Expr}{kk:Nat}(hg:Gl X "zip")(hm:X.mg "zip"=none)(ha:PA X [e,e2] ta)
  (hs:starEach [e,e2] X.aC=(false,eval e X.aC)::starEach [e2] X.aC:=by rfl) (pc:(backTo pos (starEach [e2] X.aC)).any (·.1)=false:=by rfl):
  PI X (.Tuple sM kk pb) (.Call (.Name "zip" p) [e,e2] [⟨some "strict",.Constant (.bool true) j cp,kp⟩] pos) (aaN X.K ta):=by
 intro pins s σ H R I h;refine qJ (jC I hg hm yM (rh (dQ (ha pos pins s σ H _ I h) λ us s1 ⟨vs,H1,I1,r1,q1⟩=>?_) (by rw[hs];rfl) (by rw[hs];exact pc)));obtain⟨a,b,xs,ys,ex,IM,IN,q⟩:=q1;subst ex;refine B4 (XZ (GO ?_));cases r1 with
 |cons r rr=>
  cases rr with
  |cons r' rr=>
   cases rr;cases r;cases r';obtain⟨bb,rv,p1,_⟩:=I1.list IM;obtain⟨mT,QH,p2,_⟩:=I1.list IN;have la:a<s1.heap.objs.size:=p1.lt;have lb:b<s1.heap.objs.size:=p2.lt;show wpAny _ X.A (call (.type "zip") [.ref a,.ref b] [(cZ "strict",.bool true)]) _ _ s1;refine ZL.sP p1.isList p2.isList λ h' hz lM nY h1 h2 hsz hk=>ZS.iter hz ?_
   have I2:aZ X pins σ H1 {s1 with heap:=h'}:=I1.fw (t':=s1.toks) hk;refine⟨s1.heap.objs.size+4,[s1.heap.objs.size+4,s1.heap.objs.size+2,s1.heap.objs.size+3,s1.heap.objs.size,s1.heap.objs.size+1],_,_,H1,rfl,I2,Jn (ZK s1.heap.objs.size a b la lb),⟨hz,lM,⟨_,_,nY⟩,h1,h2⟩,λ c Md=>?_,q⟩;have e':c=s1.heap.objs.size+4\/c=s1.heap.objs.size+2\/c=s1.heap.objs.size+3\/c=s1.heap.objs.size\/c=s1.heap.objs.size+1:=by simpa using Md
   have yL:s1.heap.objs.size<=c:=by
    rcases e' with z|z|z|z|z
    .rw[z];exact pK _ _
    .rw[z];exact pK _ _
    .rw[z];exact pK _ _
    .rw[z];exact ci _
    .rw[z];exact pK _ _
   exact I1.qe yL (I1.db.fresh yL)
end L2
namespace L2
open PySem PySem.Spec PyProof.Rows
structure zg(J:It)(n:Nat)(H1:Hp)(item:Nat ->V ->Hp ->Hp ->Prop):Prop where
 go:∀i H,i<n ->ae H1 H ->J.go i H
 stop:∀H,ae H1 H ->J.stop n H
 zJ:∀i x H H',i<n ->ae H1 H ->J.zJ i H x H' ->item i x H H'
theorem cu{K:aE}{a:Addr}{xs:List V}{H1:Hp}(h:aP K H1 a xs):zg (PL K a) xs.length H1 (λ i x H H'=>xs[i]?=some x/\H'=H)where
 go:=λ i H hi s=>⟨xs,xs[i],s.seq h,by simp[hi]⟩
 stop:=λ H s=>⟨xs,s.seq h,ci _⟩
 zJ:=λ i x H H' hi s y=>by
  obtain⟨e,y⟩:=y;exact⟨y xs (s.seq h),e⟩
theorem C5{lo c:Int}{n:Nat}{H1:Hp}:zg (Xi lo c n) n H1 (λ i x H H'=>x=.int (lo+(i:Nat)*c)/\H'=H)where
 go:=λ i H hi s=>hi
 stop:=λ H s=>ci _
 zJ:=λ i x H H' hi s y=>by
  obtain⟨e,y⟩:=y;exact⟨y,e⟩
theorem Jo{K:aE}{a:Addr}{xs:List V}{H1:Hp}(h:aP K H1 a xs):zg (Xj K a) xs.length H1 (λ i x H H'=>∃T y,xs[i]?=some y/\x=.ref T/\H T=none/\H'=aS H T (.fc [.int (i:Nat),y]))where
 go:=λ i H hi s=>⟨xs,xs[i],s.seq h,by simp[hi]⟩
 stop:=λ H s=>⟨xs,s.seq h,ci _⟩
 zJ:=λ i x H H' hi s y=>by
  obtain⟨T,z,e1,hT,e2,e3⟩:=y;exact⟨T,z,e3 xs (s.seq h),e1,hT,e2⟩
theorem C6{K:aE}{a b:Addr}{xs ys:List V}{H1:Hp}(h:aP K H1 a xs)(h':aP K H1 b ys)(hl:xs.length=ys.length):zg (We K a b) xs.length H1 (λ i x H H'=>∃T y z,xs[i]?=some y/\ys[i]?=some z/\x=.ref T/\H T=none/\H'=aS H T (.fc [y,z]))where
 go:=λ i H hi s=>⟨xs,ys,xs[i],ys[i]'ah,s.seq h,s.seq h',by simp[hi],by simp⟩
 stop:=λ H s=>⟨xs,ys,s.seq h,s.seq h',ci _,ah⟩
 zJ:=λ i x H H' hi s y=>by
  obtain⟨T,u,v,e1,hT,e2,e3,e4⟩:=y;exact⟨T,u,v,e3 xs (s.seq h),e4 ys (s.seq h'),e1,hT,e2⟩
theorem gx{H1 H:Hp}{D:Addr}{o:HO}(hD:H1 D=none)(s:ae H1 H):ae H1 (aS H D o):=λ b u e=>by
 rw[ag (λ z=>by rw[z,hD]at e;cases e)];exact s b u e
theorem oz{α:Type}(f:Nat ->Option α)(i:Nat):(bf (i+1)).filterMap f=(bf i).filterMap f++(f i).toList:=by
 rw[uA,List.filterMap_append];cases e:f i with
 |none=>simp[e]
 |some y=>simp[e]
theorem Wf{α:Type}(f:Nat ->Option α)(i:Nat):((bf i).filterMap f).length<=i:=by
 have:=List.length_filterMap_le f (bf i);rwa[ko]at this
theorem d_{J:It}{n:Nat}{H1:Hp}{item:Nat ->V ->Hp ->Hp ->Prop}(R:zg J n H1 item){g:TG}{tt:TT}{te:TE}{vs:List Nat}{σ:St}{D:Addr}{Qd:Hp ->Prop}(f:Nat ->Option V)(hD:H1 D=none)(hn:n<1000000)
  (hs:∀i x H H' (Qy:V ->Hp ->Prop)(Qn:Hp ->Prop),i<n ->ae H1 H ->item i x H H' ->(∀y H4,f i=some y ->ae H H4 ->Qy y H4) ->(∀H3,f i=none ->ae H H3 ->Qn H3) ->
   g x (gC σ vs) H' λ σ2 H2=>gC σ2 vs=gC σ vs/\tt σ2 H2 λ b H3=>if b=true then te σ2 H3 Qy else Qn H3)
  (hd:∀H,ae H1 H ->H D=some (.aD ((bf n).filterMap f)) ->Qd H):
  ∃W:Nat ->Nat ->Hp ->Prop,(∃m,W 0 m (aS H1 D (.aD [])))/\∀i m H,W i m H ->
   (J.stop i H/\Qd H)\/(J.go i H/\∃Nx:Hp ->Prop,(∀H',Nx H' ->∃m',m'<m/\W (i+1) m' H')/\∀x H',J.zJ i H x H' ->g x (gC σ vs) H' λ σ2 H2=>gC σ2 vs=gC σ vs/\tt σ2 H2 λ b H3=>
    if b=true then te σ2 H3 λ y H4=>∃acc,H4 D=some (.aD acc)/\acc.length<sizeLine/\Nx (aS H4 D (.aD (acc++[y])))else Nx H3):=by
 refine⟨λ i m H=>m=n -i/\i<=n/\ae H1 H/\H D=some (.aD ((bf i).filterMap f)),⟨n,rfl,ia _,gx hD (ae.refl _),aa⟩,?_⟩
 rintro i m H ⟨rfl,hi,sH,hH⟩
 by_cases dC:i<n
 .refine .inr ⟨R.go i H dC sH,λ H'=>ae H1 H'/\H' D=some (.aD ((bf (i+1)).filterMap f)),λ H' p=>⟨n -(i+1),ah,rfl,dC,p.1,p.2⟩,λ x H' y=>?_⟩;refine hs i x H H' _ _ dC sH (R.zJ i x H H' dC sH y) (λ y H4 e s4=>⟨_,s4 _ _ hH,?_,gx hD (sH.trans s4),?_⟩) (λ H3 e s3=>⟨sH.trans s3,?_⟩)
  .exact li (Wf f i) (iY (aaO dC hn) zq_dc)
  .rw[aa,oz,e];rfl
  .rw[s3 _ _ hH,oz,e];simp
 .have e:i=n:=by omega
  subst e;exact .inl ⟨R.stop H sH,hd H sH hH⟩
structure bU(O:Nat ->Addr ->HO)(H:Hp)(D:Addr)(bs:List Addr):Prop where
 aD:H D=some (.aD (bs.map V.ref))
 nd:bs.Nodup
 at_:∀j b,bs[j]?=some b ->b≠D/\∃dx,H b=some (O j dx)
theorem bU.same{O:Nat ->Addr ->HO}{H H':Hp}{D:Addr}{bs:List Addr}(R:bU O H D bs)(s:ae H H'):bU O H' D bs:=
 ⟨s _ _ R.aD,R.nd,λ j b e=>let⟨n,dx,h⟩:=R.at_ j b e;⟨n,dx,s _ _ h⟩⟩
theorem bU.nil{O:Nat ->Addr ->HO}{H:Hp}{D:Addr}(h:H D=some (.aD [])):bU O H D []:=⟨h,Ua,λ j b e=>by simp at e⟩
theorem bU.snoc{O:Nat ->Addr ->HO}{H H':Hp}{D q:Addr}{bs:List Addr}(R:bU O H D bs)(s:ae H H')(hq:H q=none)(ho:∃dx,H' q=some (O bs.length dx)):bU O (aS H' D (.aD (bs.map V.ref++[V.ref q]))) D (bs++[q]):=by
 have nq:q∉bs:=λ m=>by
  obtain⟨j,hj,e⟩:=gG m;obtain⟨_,dx,h⟩:=R.at_ j q (by rw[ay hj,e]);rw[hq]at h;cases h
 have qD:q≠D:=λ z=>by have:=R.aD;rw[<-z,hq]at this;cases this
 refine⟨by rw[aa,dZ];rfl,Ub.mpr ⟨R.nd,by simp,λ a ha b hb=>by rw[cW.mp hb];exact λ z=>nq (z▸ha)⟩,λ j b e=>?_⟩;rw[List.getElem?_append]at e;split at e
 .obtain⟨n,dx,h⟩:=R.at_ j b e;exact⟨n,dx,by rw[ag n];exact s _ _ h⟩
 .rename_i hj
  have Mo:j -bs.length=0:=by
   refine p6 λ z=>?_
   rw[v5 (by show 1<=_;omega)]at e;cases e
  rw[Mo]at e;cases e;obtain⟨dx,h⟩:=ho;have ej:j=bs.length:=by omega
  subst ej;exact⟨qD,dx,by rw[ag qD];exact h⟩
theorem rO{J:It}{n:Nat}{H1:Hp}{item:Nat ->V ->Hp ->Hp ->Prop}(R:zg J n H1 item){g:TG}{te:TE}{vs:List Nat}{σ:St}{D:Addr}{Qd:Hp ->Prop}(O:Nat ->Addr ->HO)(hD:H1 D=none)(hn:n<1000000)
  (hs:∀i x H H' (Qy:V ->Hp ->Prop)(Qn:Hp ->Prop),i<n ->ae H1 H ->item i x H H' ->(∀q H4,H q=none ->ae H H4 ->(∃dx,H4 q=some (O i dx)) ->Qy (.ref q) H4) ->
   g x (gC σ vs) H' λ σ2 H2=>gC σ2 vs=gC σ vs/\jE σ2 H2 λ b H3=>if b=true then te σ2 H3 Qy else Qn H3)
  (hd:∀H bs,ae H1 H ->bs.length=n ->bU O H D bs ->(∀b∈bs,H1 b=none) ->Qd H):
  ∃W:Nat ->Nat ->Hp ->Prop,(∃m,W 0 m (aS H1 D (.aD [])))/\∀i m H,W i m H ->
   (J.stop i H/\Qd H)\/(J.go i H/\∃Nx:Hp ->Prop,(∀H',Nx H' ->∃m',m'<m/\W (i+1) m' H')/\∀x H',J.zJ i H x H' ->g x (gC σ vs) H' λ σ2 H2=>gC σ2 vs=gC σ vs/\jE σ2 H2 λ b H3=>
    if b=true then te σ2 H3 λ y H4=>∃acc,H4 D=some (.aD acc)/\acc.length<sizeLine/\Nx (aS H4 D (.aD (acc++[y])))else Nx H3):=by
 refine⟨λ i m H=>m=n -i/\i<=n/\ae H1 H/\∃bs:List Addr,bs.length=i/\bU O H D bs/\∀b∈bs,H1 b=none,⟨n,rfl,ia _,gx hD (ae.refl _),[],rfl,bU.nil aa,λ b hb=>by cases hb⟩,?_⟩
 rintro i m H ⟨rfl,hi,sH,bs,hb,hR,hF⟩
 by_cases dC:i<n
 .refine .inr ⟨R.go i H dC sH,λ H'=>ae H1 H'/\∃bs:List Addr,bs.length=i+1/\bU O H' D bs/\∀b∈bs,H1 b=none,λ H' p=>⟨n -(i+1),ah,rfl,dC,p.1,p.2⟩,λ x H' y=>?_⟩;refine hs i x H H' _ _ dC sH (R.zJ i x H H' dC sH y) (λ q H4 hq s4 ho=>⟨_,s4 _ _ hR.aD,?_,gx hD (sH.trans s4),bs++[q],by rw[dc,hb];rfl,hR.snoc s4 hq (by rw[hb];exact ho),λ b Qx=>?_⟩)
  rotate_left
  .rcases kX.mp Qx with z|z
   .exact hF b z
   .rw[cW.mp z];cases e:H1 q with
    |none=>rfl
    |some o=>rw[sH q o e]at hq;cases hq
  rw[ak,hb];exact iY (aaO dC hn) zq_dc
 .have e:i=n:=by omega
  subst e;exact .inl ⟨R.stop H sH,hd H bs sH hb hR hF⟩
theorem E9{prog:dz}{w:c9}{A:cw}{ns:List Int}{bb:List aq}(h:∀(i:Nat)(v:aq),bb[i]?=some v ->∃t,v=.int (ns.getD i 0) t):
  TruthOf prog w A (λ i v=>bb.toArray[i]?=some v) (λ i=>decide (ns.getD i 0≠0)):=λ i v s Q E hv hq=>by
 have Pl:bb[i]?=some v:=by simpa using hv
 obtain⟨t,rfl⟩:=h i v Pl;refine truthy_int ?_;have DM:Q (decide (ns.getD i 0≠0)) s:=hq;have e:(ns.getD i 0 !=0)=decide (ns.getD i 0≠0):=by
  by_cases z:ns.getD i 0=0
  .rw[z];rfl
  .rw[bO z];simpa using z
 rw[e];exact DM
theorem E_(ns:List Int):(bf ns.length).any (λ i=>decide (ns.getD i 0≠0))=ns.any λ n=>decide (n≠0):=by
 rw[kH,Hw,Hw];constructor
 .rintro ⟨i,hi,e⟩
  have uV:=gB.mp hi;refine⟨ns[i],gH uV,?_⟩;rw[aG,ay uV]at e;exact e
 .rintro ⟨x,hx,e⟩
  obtain⟨i,hi,rfl⟩:=gG hx;refine⟨i,gB.mpr hi,?_⟩;rw[aG,ay hi];exact e
section
variable{X:Cx}
theorem bv.Fb{ns:List Int}{bb:List aq}(r:bv (ns.map V.int) bb)(i:Nat)(v:aq)(h:bb[i]?=some v):∃t,v=.int (ns.getD i 0) t:=by
 have hl:=r.length;have hi:i<bb.length:=(gM.mp h).1;rw[ak]at hl;have hx:(ns.map V.int)[i]?=some (V.int (ns.getD i 0)):=by
  rw[aT,ay ah,aG,ay ah];rfl
 obtain⟨u,hu,t,e⟩:=r.get hx;rw[h]at hu;cases hu;exact⟨t,e⟩
def aaP(K:aE):List V ->Hp ->VK ->Prop:=λ vs H Q=>∃(a:Addr)(ns:List Int),vs=[V.ref a]/\aP K H a (ns.map V.int)/\Q (.bl (ns.any λ n=>decide (n≠0))) H
theorem Rs(hc:X.mS=true):nv X (.builtin "any") (aaP X.K):=by
 intro pins s σ H vs us Q I r h;obtain⟨a,ns,rfl,hs,q⟩:=h;obtain⟨bb,rv,hl,_⟩:=I.list hs;rw[bv.Lg r];have bH:=rv.length;rw[ak]at bH;refine call_any_walk (BH hl.isList λ s₂ e2 st jD=>?_);subst e2;refine⟨_,_,_,_,_,_,_,rfl,v0 (A:=X.A.in1) (I.ok.hd hc) _ a jD bb.toArray,st,E9 rv.Fb,λ h' tk hk=>?_⟩;refine⟨.bl _,H,I.fw λ b o eo=>hk b o (λ hm=>?_) (cf _ eo),?_,q⟩
 .rcases eB.mp hm with z|z
  .exact absurd (z▸dB eo) (vI _)
  .cases z
 .show Bo _=Bo _;rw[<-E_,cV,bH]
theorem Jp:MtR X "list.count" (λ x xs H Q=>∃(a:Addr)(ns:List Int)(k:Int),x=.ref a/\xs=[.int k]/\aP X.K H a (ns.map V.int)/\Q (.int (ns.count k:Nat)) H):=by
 intro pins s σ H x xs u us Q I rx r h;obtain⟨a,ns,k,rfl,rfl,hs,q⟩:=h;obtain⟨bb,rv,hl,_⟩:=I.list hs;cases rx;cases r with
 |cons r0 rr=>
  cases rr;obtain⟨t,rfl⟩:=r0;exact count_list_ints hl.isList rv.ints ⟨.int _,H,I.Ig _,⟨_,rfl⟩,q⟩
end
theorem Fc(a d:aq):argsOk "max" ⟨[a],[(cZ "default",d)]⟩:=by unfold argsOk;kernel_rfl
section
variable{X:Cx}
theorem Rt{A:cw}{pins:List (Addr×Obj)}{σ:St}{H1:Hp}{I S l:Addr}{ns:List Int}{dk:List (Str×aq)}{R:Bw ->ap ->Prop}(hh:A.handled=none)(hl:aP X.K H1 l (ns.map V.int))(Et:S≠I)(Lx:l≠I)(fi:fA X pins H1 I)(fs:fA X pins H1 S):
  ∀(cC:List Int)(j:Nat)(s:ap)(b:Int)(t:Tok)(c:Nat),(∀(s':ap)(t':Tok),aZ X pins σ H1 s' ->R (.ok (.ret (.int (cC.foldl max b) t'))) s') ->ns.drop j=cC ->j<=ns.length ->aZ X pins σ H1 s ->s.heap.IsListIter I l j ->
   s.heap.get? S=some (seqObj "list" #[.int b t,.int b t] c) ->codeAny (model X.prog X.w) A (.builtin "max.loop" ⟨[.ref I,.none,.ref S],dk⟩) R s:=by
 have nV:(toString "max"++toString ".loop":String)="max.loop":=by decide
 intro cC;induction cC with
 |nil=>
  intro j s b t c hR hd hj I0 eG hS;have Y8:j=ns.length:=by
   have h1:(ns.drop j).length=0:=by rw[hd];rfl
   rw[mj]at h1;omega
  obtain⟨bb,rv,pl,hz⟩:=I0.list hl;have hsz:bb.toArray.size=j:=by rw[cV,<-rv.length,ak,Y8]
  have W:=v0 (prog:=X.prog) (w:=X.w) (A:=A.in1) hh I l Lx bb.toArray;refine yS Uc ?_;rw[BY zh _];show wpAny _ A.in1 (seqItems? (.ref S)>>=_) _ _ _;refine az (iM hS rfl ?_);show wpAny _ A.in1 (tryCatch (pyNext (.ref I)) _>>=_) _ _ _;refine az (nW (W.done _ _ _ ⟨by rw[hsz];exact eG,pl.isList⟩ λ h' yd gj=>?_));have I1:=I0.dq (t':=yd) (ch:=[I]) gj (λ b hb=>by rw[cW.mp hb];exact fi);have GH:=gj S _ (by simpa using Et) hS;have s1:=nX h' S (dN λ _=>(#[]:Array aq));show wpAny _ A.in1 (updateSeq S (λ _=>#[])>>=_) _ _ _;refine az ?_;refine BZ GH rfl (az (mr (bY ?_)));exact hR _ t (I1.dq (t':=yd) (ch:=[S]) (λ b o hb e=>(s1.2 b (by simpa using hb)).trans e) (λ b hb=>by rw[cW.mp hb];exact fs))
 |cons x cC ih=>
  intro j s b t c hR hd hj I0 eG hS;have hxj:ns[j]?=some x:=by
   have h1:(ns.drop j)[0]?=some x:=by rw[hd];rfl
   rw[GI]at h1;simpa using h1
  have dC:j<ns.length:=(gM.mp hxj).1;have Kq:ns.drop (j+1)=cC:=by
   have h1:=congrArg (List.drop 1) hd;rw[GK]at h1;simpa using h1
  obtain⟨bb,rv,pl,hz⟩:=I0.list hl;have hsz:bb.toArray.size=ns.length:=by rw[cV,<-rv.length,ak]
  have W:=v0 (prog:=X.prog) (w:=X.w) (A:=A.in1) hh I l Lx bb.toArray;refine yS Uc ?_;rw[BY zh _];show wpAny _ A.in1 (seqItems? (.ref S)>>=_) _ _ _;refine az (iM hS rfl ?_);show wpAny _ A.in1 (tryCatch (pyNext (.ref I)) _>>=_) _ _ _;refine az (nW (W.item j _ _ _ (by rw[hsz];exact dC) ⟨eG,pl.isList⟩ λ v h' yd hP B0 gj=>?_));obtain⟨u,rfl⟩:∃u,v=.int x u:=by
   obtain⟨t0,e0⟩:=rv.Fb j v (by simpa using hP);rw[aG,hxj]at e0;exact⟨t0,e0⟩
  have I1:=I0.dq (t':=yd) (ch:=[I]) gj (λ b hb=>by rw[cW.mp hb];exact fi);have GH:=gj S _ (by simpa using Et) hS;show wpAny _ A.in1 (tryCatch (holding [.int x u,.int x u] (richCompare .Gt (.int x u) (.int b t)>>=_)) _>>=_) _ _ _;refine az (nW (uS (az ?_)));refine richCompare_gives (op:=.Gt) (Go _ x u) (Go _ b t) F.slot_int_gt F.entry_int_gt (F.args_int_gt_2 _ _) (gives_int_gt x b u t) (λ z=>nomatch z) ?_;refine az (uS (Bq ?_));refine az (mr (bY ?_));by_cases j7:x>b
  .rw[bO j7];have s1:=nX h' S (dN λ _=>#[uN x u,uN x u]);obtain⟨c2,Gk⟩:∃c2,(h'.update S (dN λ _=>#[uN x u,uN x u])).get? S=some (seqObj "list" #[uN x u,uN x u] c2):=⟨_,yU GH λ _=>#[uN x u,uN x u]⟩;simp only[mo];refine az ?_;refine BZ GH rfl (az (mr ?_));rw[nV];have I2:=I1.dq (t':=yd) (ch:=[S]) (λ b o hb e=>(s1.2 b (by simpa using hb)).trans e) (λ b hb=>by rw[cW.mp hb];exact fs);refine bY ⟨wj zh _,ih (j+1) _ x u c2 (λ s' t' i1=>?_) Kq dC I2 (B0.1.at λ o e=>(s1.2 I Et.symm).trans e) Gk⟩;have:=hR s' t' i1;rwa[qO,show max b x=x by omega]at this
  .rw[gh j7];simp only[v6,pH];refine az (mr ?_);rw[nV];refine bY ⟨wj zh _,ih (j+1) _ b t c (λ s' t' i1=>?_) Kq dC I1 B0.1 GH⟩;have:=hR s' t' i1;rwa[qO,show max b x=b by omega]at this
def Fd(ns:List Int)(d:Int):Int:=match ns with
 |[]=>d
 |x::r=>r.foldl max x
theorem Ru{A:cw}{pins:List (Addr×Obj)}{σ:St}{H1:Hp}{l:Addr}{ns:List Int}{d:Int}{dt:Tok}{s:ap}{Q:aq ->ap ->Prop}{E:aq ->ap ->Prop}
  (hh:A.handled=none) (hl:aP X.K H1 l (ns.map V.int)) (I0:aZ X pins σ H1 s) (hQ:∀(s':ap)(t:Tok),aZ X pins σ H1 s' ->Q (.int (Fd ns d) t) s'):
  wpAny (model X.prog X.w) A (call (.builtin "max") [.ref l] [(cZ "default",.int d dt)]) Q E s:=by
 have nV:(toString "max"++toString ".loop":String)="max.loop":=by decide
 obtain⟨bb,rv,pl,hz⟩:=I0.list hl;have Zb:=pl.isList;have Lx:l≠s.heap.objs.size:=jj pl.lt;refine kmk_tree PySem.F.kind_max PySem.F.plain_max PySem.F.entry_max (Fc _ _) ?_;show wpAny _ A.in1 (LA "max" ["key","default"] 0 ⟨[],[(cZ "default",.int d dt)]⟩>>=_) _ _ s;refine az (B2 (show LA "max" ["key","default"] 0 ⟨[],[(cZ "default",.int d dt)]⟩=pure [none,some (.int d dt)] from rfl) ?_);refine az (bY ?_);refine az (Im Zb ?_);refine az (LB ?_ (ia _));rw[nV];refine bY ⟨wj zh _,?_⟩;generalize hG:(s.heap.push {cls:=.type "list_iterator",data:=.fields #[.ref l,.int 0 0]}).push (seqObj "list" #[] 0)=g;have Tj:(s.heap.push {cls:=.type "list_iterator",data:=.fields #[.ref l,.int 0 0]}).objs.size=s.heap.objs.size+1:=GN ..;rw[Tj];have kg:∀b o,s.heap.get? b=some o ->g.get? b=some o:=λ b o e=>by rw[<-hG];exact cf _ (cf _ e)
 have gI:g.get? s.heap.objs.size=some {cls:=.type "list_iterator",data:=.fields #[.ref l,.int 0 0]}:=by rw[<-hG];exact cf _ (fN _ rfl)
 have gS:g.get? (s.heap.objs.size+1)=some (seqObj "list" #[] 0):=by rw[<-hG,<-Tj];exact fN _ rfl
 have I1:=I0.fw (t':=s.toks) kg;have fI:fA X pins H1 s.heap.objs.size:=I0.qe (ci _) (I0.db.fresh (ci _));have fS:fA X pins H1 (s.heap.objs.size+1):=I0.qe (t8 _) (I0.db.fresh (t8 _));have Et:s.heap.objs.size+1≠s.heap.objs.size:=S6 _;have eG:g.IsListIter s.heap.objs.size l 0:=⟨_,gI,rfl,rfl⟩;have W:=v0 (prog:=X.prog) (w:=X.w) (A:=A.in1) hh s.heap.objs.size l Lx bb.toArray;have hsz:bb.toArray.size=ns.length:=by rw[cV,<-rv.length,ak]
 have LC:g.IsList l bb.toArray:=by
  obtain⟨o,e,r⟩:=Zb;exact⟨o,kg _ _ e,r⟩
 refine yS Uc ?_;rw[BY zh _];show wpAny _ A.in1 (seqItems? (.ref _)>>=_) _ _ _;refine az (iM gS rfl ?_);show wpAny _ A.in1 (tryCatch (pyNext (.ref s.heap.objs.size)) _>>=_) _ _ _;cases ns with
 |nil=>
  refine az (nW (W.done _ _ _ ⟨by rw[hsz];exact eG,LC⟩ λ h' yd gj=>?_));have I2:=I1.dq (t':=yd) (ch:=[s.heap.objs.size]) gj (λ b hb=>by rw[cW.mp hb];exact fI);show wpAny _ A.in1 (rule _>>=_) _ _ _;exact az (pN (bY (hQ _ dt I2)))
 |cons x cC=>
  refine az (nW (W.item 0 _ _ _ (by rw[hsz];exact aaQ _) ⟨eG,LC⟩ λ v h' yd hP B0 gj=>?_));obtain⟨u,rfl⟩:∃u,v=.int x u:=by
   obtain⟨t0,e0⟩:=rv.Fb 0 v (by simpa using hP);exact⟨t0,e0⟩
  have I2:=I1.dq (t':=yd) (ch:=[s.heap.objs.size]) gj (λ b hb=>by rw[cW.mp hb];exact fI);have GH:=gj (s.heap.objs.size+1) _ (by simpa using Et) gS;have s1:=nX h' (s.heap.objs.size+1) (dN λ _=>#[uN x u,uN x u]);obtain⟨c2,Gk⟩:∃c2,(h'.update (s.heap.objs.size+1) (dN λ _=>#[uN x u,uN x u])).get? (s.heap.objs.size+1)=some (seqObj "list" #[uN x u,uN x u] c2):=⟨_,yU GH λ _=>#[uN x u,uN x u]⟩;show wpAny _ A.in1 (updateSeq (s.heap.objs.size+1) (λ _=>#[uN x u,uN x u])>>=_) _ _ _;refine az ?_;refine BZ GH rfl ?_;rw[nV];have I3:=I2.dq (t':=yd) (ch:=[s.heap.objs.size+1]) (λ b o hb e=>(s1.2 b (by simpa using hb)).trans e) (λ b hb=>by rw[cW.mp hb];exact fS);exact bY ⟨wj zh _,Rt hh hl Et Lx fI fS cC 1 _ x u c2 (λ s' t' i1=>hQ s' t' i1) rfl (Nat.succ_le_of_lt (aaQ _)) I3 (B0.1.at λ o e=>(s1.2 _ Et.symm).trans e) Gk⟩
def aaR(K:aE)(te:TE)(d:Int):TE:=λ σ H Q=>te σ H λ v H1=>∃(l:Addr)(ns:List Int),v=.ref l/\aP K H1 l (ns.map V.int)/\Q (.int (Fd ns d)) H1
theorem Hx{e:Expr}{pn kp cp pos:Pos}{j:Nat}{d:Int}{te:TE}(LD:X.mS=true)(hg:Gl X "max")(hm:X.mg "max"=none)(he:PE X e te)(hs:starEach [e] X.aC=[(false,eval e X.aC)]:=by rfl):
  PE X (.Call (.Name "max" pn) [e] [⟨some "default",.Constant (.int d) j cp,kp⟩] pos) (aaR X.K te d):=by
 intro pins s σ H Q I h;refine qJ (jC I hg hm (show bootBuiltins "max"=some (.builtin "max") by decide+kernel) ?_);refine Tl (dQ ((aO he (by rw[hs];rfl)) pos pins s σ H (VB λ v H1=>∃(l:Addr)(ns:List Int),v=.ref l/\aP X.K H1 l (ns.map V.int)/\Q (.int (Fd ns d)) H1) I h) λ us s1 ⟨vs,H1,I1,r,q⟩=>?_) (by rw[hs];rfl) (by rw[hs];rfl);cases r with
 |nil=>exact jZ q
 |@cons x0 u0 _ _ rl rr=>
  cases rr with
  |cons _ _=>exact jZ q
  |nil=>
   have q:∃(l:Addr)(ns:List Int),x0=.ref l/\aP X.K H1 l (ns.map V.int)/\Q (.int (Fd ns d)) H1:=q;obtain⟨l,ns,ex,hl,hq⟩:=q;subst ex;cases rl;refine B4 (dQ ((am (X:=X)) _ s1 σ H1 _ I1 (show tC (.int d) σ H1 (λ v H'=>v=.int d/\H'=H1) from⟨rfl,rfl⟩)) λ du s3 ⟨dv,H3,I3,rd,edv,eH⟩=>?_);subst edv;subst eH;obtain⟨dt,rfl⟩:=rd;refine GO ?_;show wpAny _ X.A (call (.builtin "max") [.ref l] [(cZ "default",.int d dt)]) _ _ s3;exact Ru (A:=X.A) (I.ok.hd LD) hl I3 λ s' t i1=>⟨.int _,H3,i1,⟨t,rfl⟩,hq⟩
end
end L2
namespace JS
open Vbtkad
theorem Jq(l:List Nat):∀a,l.foldl (λ a b=>a+b) a=a+l.foldl (λ a b=>a+b) 0:=by
 induction l with
 |nil=>intro a;rfl
 |cons x r ih=>
  intro a;show r.foldl _ (a+x)=a+r.foldl _ (0+x);rw[ih (a+x),ih (0+x)];omega
theorem cS(x:Nat)(l:List Nat):sumOf (x::l)=x+sumOf l:=by
 unfold sumOf;show l.foldl _ (0+x)=_;rw[Jq,LN]
theorem s0:sumOf []=0:=rfl
theorem Ay(l r:List Nat):sumOf (l++r)=sumOf l+sumOf r:=by
 induction l with
 |nil=>show sumOf r=sumOf []+sumOf r;rw[s0,LN]
 |cons x l ih=>
  show sumOf (x::(l++r))=_;rw[cS,cS,ih];omega
theorem kP{α:Type}{f:Nat ->Option α}{y:α}:∀{A:List Nat},A.Pairwise (·<=·) ->(A.findSome? f=some y↔∃a∈A,f a=some y/\∀b∈A,b<a ->f b=none)
 |[],_=>by simp
 |x::A,h=>by
  obtain⟨h1,h2⟩:=pL.mp h;rw[aaS];cases e:f x with
  |some z=>
   constructor
   .intro q;refine⟨x,fM,by rw[e];exact q,λ b hb dC=>?_⟩;rcases eB.mp hb with rfl|hb
    .omega
    .exact absurd (h1 b hb) ah
   .rintro ⟨a,ha,fa,hn⟩
    rcases eB.mp ha with rfl|ha
    .rw[e]at fa;exact fa
    .by_cases dC:x<a
     .have:=hn x fM dC;rw[e]at this;cases this
     .have:x=a:=by have:=h1 a ha;omega
      subst this;rw[e]at fa;exact fa
  |none=>
   show A.findSome? f=some y↔_;rw[kP h2];constructor
   .rintro ⟨a,ha,fa,hn⟩
    refine⟨a,ff _ ha,fa,λ b hb dC=>?_⟩;rcases eB.mp hb with rfl|hb
    .exact e
    .exact hn b hb dC
   .rintro ⟨a,ha,fa,hn⟩
    rcases eB.mp ha with rfl|ha
    .rw[e]at fa;cases fa
    .exact⟨a,ha,fa,λ b hb=>hn b (ff _ hb)⟩
theorem Jr{p:Nat ->Bool}(A:List Nat):A.find? p=A.findSome? λ a=>if p a=true then some a else none:=by
 induction A with
 |nil=>rfl
 |cons a A ih=>
  rw[List.find?_cons,aaS];cases e:p a with
  |true=>rfl
  |false=>exact ih
theorem qt{α:Type}(g:α ->Nat):∀(l:List α)(m:Nat),m<=l.foldl (λ a x=>max a (g x)) m/\∀x∈l,g x<=l.foldl (λ a x=>max a (g x)) m
 |[],m=>⟨ci _,λ x h=>by cases h⟩
 |y::l,m=>by
  obtain⟨h1,h2⟩:=qt g l (max m (g y));refine⟨fB (Nat.le_max_left _ _) h1,λ x hx=>?_⟩;rcases eB.mp hx with rfl|hx
  .exact fB (Nat.le_max_right _ _) h1
  .exact h2 x hx
theorem iu{g:Once ->Nat}{l:List Once}{b:Nat}:b∈(bf ((l.foldl (λ a x=>max a (g x)) 0)+1)).filter (λ b=>l.any λ x=>g x==b)↔b∈l.map g:=by
 rw[ii,gB,Hw,cY];constructor
 .rintro ⟨_,x,hx,e⟩
  exact⟨x,hx,eq_of_beq e⟩
 .rintro ⟨x,hx,rfl⟩
  exact⟨aaT ((qt g l 0).2 x hx),x,hx,beq_self_eq_true _⟩
theorem rP{g:Once ->Nat}{l:List Once}:((bf ((l.foldl (λ a x=>max a (g x)) 0)+1)).filter (λ b=>l.any λ x=>g x==b)).Pairwise (·<=·):=
 (adR (λ h=>Ie h) aaU).filter _
def jt(f:fX):Nat:=sumOf (f.map (·.1))
def Az(l:List Once):Nat:=l.foldl (λ a x=>max a x.come) 0
def lA(l:List Once)(f:fX)(t:Nat):List Nat:=(bf l.length).filter λ k=>decide (0<(f.getD k (0,0)).1)&&decide ((l.getD k ⟨0,0,0⟩).come<=t)
def o0:Once:=⟨0,0,0⟩
def Fe(l:List Once)(k:Nat):Nat:=(l.getD k o0).due
def je(l:List Once)(b:Option Nat)(k:Nat):Option Nat:=match b with
 |none=>some k
 |some i=>if Fe l k<Fe l i then some k else some i
theorem Js{α β:Type}(d:α)(e:β){l:List α}{f:List β}(h:f.length=l.length):(bf l.length).zip (l.zip f)=(bf l.length).map λ k=>(k,(l.getD k d,f.getD k e)):=by
 refine kn (by simp[h]) λ i h1 h2=>?_
 have hi:i<l.length:=by simpa using h2
 have hf:i<f.length:=by omega
 rw[CM,fW,CM,mM];simp[hi,hf]
theorem oA{l:List Once}{f:fX}(h:f.length=l.length)(t:Nat):onceNext l f t=(lA l f t).foldl (je l) none:=by
 unfold onceNext;rw[Js (⟨0,0,0⟩:Once) ((0,0):Nat×Nat) h,mw,List.foldl_map];unfold lA;have e:((λ e:Nat×Once×Nat×Nat=>decide (e.2.1.come<=t)&&decide (0<e.2.2.1))∘λ k=>(k,l.getD k (⟨0,0,0⟩:Once),f.getD k (0,0)))=λ k=>decide (0<(f.getD k (0,0)).1)&&decide ((l.getD k ⟨0,0,0⟩).come<=t):=by
  funext k
  show(decide _&&decide _)=_;rw[aam]
 rw[e];rfl
theorem rQ{l:List Once}{f:fX}{t k:Nat}(h:k∈lA l f t):k<l.length/\0<(f.getD k (0,0)).1/\(l.getD k o0).come<=t:=by
 unfold lA at h;rw[ii,gB,bq,bc,bc]at h;exact h
theorem zi(l:List Once):∀(ks:List Nat)(b:Option Nat)(i:Nat),ks.foldl (je l) b=some i ->i∈ks\/b=some i
 |[],b,i,h=>.inr h
 |k::ks,b,i,h=>by
  rcases zi l ks _ i h with q|q
  .exact .inl (ff _ q)
  .cases b with
   |none=>exact .inl (by cases q;exact fM)
   |some j=>
    unfold je at q;dsimp only at q;split at q
    .exact .inl (by cases q;exact fM)
    .exact .inr q
theorem qu(l:List Once):∀(ks:List Nat)(b:Nat),∃i,ks.foldl (je l) (some b)=some i
 |[],b=>⟨b,rfl⟩
 |k::ks,b=>by
  show∃i,ks.foldl (je l) (je l (some b) k)=some i;unfold je;dsimp only;split
  .exact qu l ks k
  .exact qu l ks b
theorem zj{l:List Once}{f:fX}(h:f.length=l.length){t:Nat}:onceNext l f t=none↔lA l f t=[]:=by
 rw[oA h];cases e:lA l f t with
 |nil=>exact⟨λ _=>rfl,λ _=>rfl⟩
 |cons k ks=>
  constructor
  .intro z;obtain⟨i,hi⟩:=qu l ks k;rw[qO,show je l none k=some k from rfl,hi]at z;cases z
  .intro z;cases z
theorem oY{l:List Once}{f:fX}(h:f.length=l.length){t i:Nat}(e:onceNext l f t=some i):i∈lA l f t:=by
 rw[oA h]at e;rcases zi l _ _ _ e with q|q
 .exact q
 .cases q
theorem w9(g:Nat×Nat ->Nat×Nat):∀(f:fX)(i:Nat)(hi:i<f.length),(∀x,(g x).1=x.1 -1) ->0<(f.getD i (0,0)).1 ->jt (f.modify i g)+1=jt f
 |[],i,hi,_,_=>absurd hi (zk _)
 |x::f,0,_,hg,h=>by
  have h':0<x.1:=h;show sumOf ((g x).1::f.map (·.1))+1=sumOf (x.1::f.map (·.1));rw[cS,cS,hg];omega
 |x::f,i+1,hi,hg,h=>by
  have:=w9 g f i (Nat.lt_of_succ_lt_succ hi) hg h;show sumOf (x.1::(f.modify i g).map (·.1))+1=sumOf (x.1::f.map (·.1));rw[cS,cS];unfold jt at this;omega
theorem C7{f:fX}:jt f=0↔∀x∈f,x.1=0:=by
 unfold jt;induction f with
 |nil=>simp[s0]
 |cons x f ih=>
  rw[dW,cS];constructor
  .intro h y hy;rcases eB.mp hy with rfl|hy
   .omega
   .exact ih.mp ah y hy
  .intro h;have h1:=h x fM;have h2:=ih.mpr λ y hy=>h y (ff _ hy)
   omega
def Wg(t:Nat)(x:Nat×Nat):Nat×Nat:=(x.1 -1,if x.1=1 then t+1 else x.2)
def fK(l:List Once)(t:Nat)(f:fX):fX:=match onceNext l f t with
 |none=>f
 |some i=>f.modify i (Wg t)
theorem iF(l:List Once)(n t:Nat)(f:fX):onceFrom l (n+1) t f=onceFrom l n (t+1) (fK l t f):=by
 show(match onceNext l f t with|none=>_|some i=>_)=_;unfold fK;cases onceNext l f t<;>rfl
theorem lZ(l:List Once)(t:Nat)(f:fX):(fK l t f).length=f.length:=by
 unfold fK;cases onceNext l f t with
 |none=>rfl
 |some i=>exact List.length_modify ..
theorem Nr{l:List Once}{f:fX}(h:∀x∈f,x.1=0)(t:Nat):lA l f t=[]:=by
 unfold lA;rw[Lq];intro k _ z;rw[bq,bc]at z;have:(f.getD k (0,0)).1=0:=by
  rw[aG];cases e:f[k]?with
  |none=>rfl
  |some x=>exact h x (cH e)
 omega
theorem p7{l:List Once}:∀(n t:Nat){f:fX},f.length=l.length ->(∀x∈f,x.1=0) ->onceFrom l n t f=f
 |0,_,_,_,_=>rfl
 |n+1,t,f,hl,h=>by
  rw[iF];have:fK l t f=f:=by
   unfold fK;rw[(zj hl).mpr (Nr h t)]
  rw[this];exact p7 n (t+1) hl h
def Ud(l:List Once)(t:Nat)(f:fX):Nat:=(Az l -t)+jt f
theorem Nt{l:List Once}{t:Nat}{f:fX}(hl:f.length=l.length)(h:jt f≠0):Ud l (t+1) (fK l t f)<Ud l t f:=by
 unfold Ud fK;cases e:onceNext l f t with
 |some i=>
  obtain⟨h1,h2,_⟩:=rQ (oY hl e);have:=w9 (Wg t) f i ah (λ _=>rfl) h2;dsimp only;omega
 |none=>
  dsimp only;have hw:=(zj hl).mp e;obtain⟨x,hx,VA⟩:∃x∈f,x.1≠0:=by
   refine p6 λ z=>h (C7.mpr λ x hx=>p6 λ y=>z ⟨x,hx,y⟩)
  obtain⟨k,hk,rfl⟩:=gG hx;have gj:k<l.length:=by omega
  have hc:t<(l[k]).come:=by
   refine p6 λ z=>?_
   have:k∈lA l f t:=by
    unfold lA;rw[ii,gB,bq,bc,bc];refine⟨gj,?_,?_⟩
    .rw[aG,ay hk];show 0<(f[k]).1;omega
    .rw[aG,ay gj];show(l[k]).come<=t;omega
   rw[hw]at this;cases this
  have hm:(l[k]).come<=Az l:=(qt (·.come) l 0).2 _ (gH gj);omega
theorem Nu(l:List Once):Ud l 0 (l.map λ x=>(x.need,0))=horizon l:=by
 unfold Ud horizon jt Az;rw[bB];rfl
structure ju(l:List Once)(t:Nat)(left done:List Nat)(f:fX)(n:Nat):Prop where
 len:f.length=l.length
 left:left=f.map (·.1)
 dl:done.length=l.length
 done:∀i,(f.getD i (0,0)).1=0 ->done.getD i 0=(f.getD i (0,0)).2
 aaV:onceEnds l=(onceFrom l n t f).map (·.2)
 Ud:Ud l t f<=n
theorem ju.init{l:List Once}(hn:∀x∈l,0<x.need):ju l 0 (l.map (·.need)) (l.map λ _=>0) (l.map λ x=>(x.need,0)) (horizon l):=by
 refine⟨by simp,by rw[bB];rfl,by simp,λ i h=>?_,rfl,by rw[Nu];exact ci _⟩;rw[aG,aT]at h⊢;rw[aG,aT];cases e:l[i]?with
 |none=>rfl
 |some x=>rfl
theorem ju.stop{l:List Once}{t:Nat}{left done:List Nat}{f:fX}{n:Nat}(I:ju l t left done f n)(h:∀x∈left,x=0):done=onceEnds l:=by
 have h0:∀x∈f,x.1=0:=λ x hx=>h _ (by rw[I.left];exact Nv hx)
 rw[I.aaV,p7 n t I.len h0];refine kn (by simp[I.len,I.dl]) λ i h1 h2=>?_
 have hf:i<f.length:=by simpa using h2
 have:=I.done i (by rw[aG,ay hf];exact h0 _ (gH hf));rw[aG,aG,ay hf,ay h1]at this;rw[fW];exact this
def C8(left:List Nat)(o:Option Nat):List Nat:=match o with
 |none=>left
 |some i=>left.set i (left.getD i 0 -1)
def w_(t:Nat)(done:List Nat)(o:Option Nat):List Nat:=match o with
 |none=>done
 |some i=>done.set i (t+1)
theorem ju.step{l:List Once}{t:Nat}{left done:List Nat}{f:fX}{n:Nat}(I:ju l t left done f n)(h:¬∀x∈left,x=0):
  ∃n',n'<n/\ju l (t+1) (C8 left (onceNext l f t)) (w_ t done (onceNext l f t)) (fK l t f) n':=by
 have hs:jt f≠0:=λ z=>h λ x hx=>by
  rw[I.left]at hx;obtain⟨y,hy,rfl⟩:=cY.mp hx;exact C7.mp z y hy
 have hf:=Nt (t:=t) I.len hs;have hn:=I.Ud;obtain⟨n',rfl⟩:∃n',n=n'+1:=⟨n -1,ah⟩;refine⟨n',KQ _,⟨(lZ ..).trans I.len,?_,?_,?_,by rw[I.aaV,iF],ah⟩⟩
 .unfold C8 fK;cases e:onceNext l f t with
  |none=>exact I.left
  |some i=>
   obtain⟨h1,h2,_⟩:=rQ (oY I.len e);have hi:i<f.length:=by rw[I.len];exact h1
   dsimp only;rw[I.left];refine kn aL λ k a1 a2=>?_
   rw[Ue,fW,fW,List.getElem_modify];by_cases z:i=k
   .subst z;rw[au rfl,au rfl,aG,aT,ay hi];rfl
   .rw[ao z,ao z]
 .unfold w_;cases onceNext l f t with
  |none=>exact I.dl
  |some i=>dsimp only;rw[i8];exact I.dl
 .intro k;unfold w_ fK;cases e:onceNext l f t with
  |none=>exact I.done k
  |some i=>
   obtain⟨h1,h2,_⟩:=rQ (oY I.len e);have hi:i<f.length:=by rw[I.len];exact h1
   have hd:i<done.length:=by rw[I.dl];exact h1
   dsimp only;rw[aG,aG,List.getElem?_modify,List.getElem?_set];by_cases z:i=k
   .subst z;rw[au rfl,au hd,ay hi];intro q;have q0:(if i=i then Wg t f[i]else f[i]).1=0:=q;rw[au rfl]at q0;have q':(f[i]).1 -1=0:=q0;rw[aG,ay hi]at h2;have mY:0<(f[i]).1:=h2;show t+1=(if i=i then Wg t f[i]else f[i]).2;rw[au rfl];unfold Wg;dsimp only;rw[au ah]
   .rw[ao z];have:=I.done k;rw[aG,aG]at this;cases e2:f[k]?with
    |none=>rw[e2]at this;exact this
    |some x=>
     rw[e2]at this;show(if i=k then Wg t x else x).1=0 ->_=(if i=k then Wg t x else x).2;rw[ao z];exact this
theorem xa{p a:Nat}(hp:0<p):(a+1)/p=a/p+(if(a+1) % p=0 then 1 else 0):=by
 have h1:=Nw a p;have h2:=TZ a hp;generalize hq:a/p=q at*;generalize hr:a % p=r at*;by_cases h:r+1<p
 .have e:a+1=p*q+(r+1):=by omega
  have m:(a+1) % p=r+1:=by rw[e,Nat.mul_add_mod];exact Nat.mod_eq_of_lt h
  have d:(a+1)/p=q:=by rw[e,Nat.mul_add_div hp,Uf h,Hy]
  rw[m,d,ao ah];rfl
 .have e:a+1=p*(q+1):=by rw[ML,Nat.mul_one];omega
  have m:(a+1) % p=0:=by rw[e];exact aaW _ _
  have d:(a+1)/p=q+1:=by rw[e];exact zb _ hp
  rw[m,d,au rfl]
def s_(x:aV)(t:Nat):Nat:=if t<x.due then 0 else(t -x.due)/x.period+1
def uY(x:aV)(t:Nat):Bool:=decide (x.due<=t)&&decide ((t -x.due) % x.period=0)
theorem Jt(x:aV):s_ x 0=if uY x 0=true then 1 else 0:=by
 unfold s_ uY;by_cases h:0<x.due
 .rw[au h,ao i6]
 .have e:x.due=0:=by omega
  rw[e];simp
theorem Ju{x:aV}(hp:0<x.period)(t:Nat):s_ x (t+1)=s_ x t+if uY x (t+1)=true then 1 else 0:=by
 unfold s_ uY;by_cases h:t+1<x.due
 .rw[au h,au ah,ao i6]
 .rw[ao h];by_cases h2:t<x.due
  .have e:t+1 -x.due=0:=by omega
   rw[au h2,e,au i6];simp
  .rw[ao h2,show t+1 -x.due=(t -x.due)+1 by omega,xa hp];by_cases h3:((t -x.due)+1) % x.period=0
   .rw[au h3,au (by simp;exact⟨ah,h3⟩)]
   .rw[ao h3,ao (by simp;exact λ _=>h3)]
theorem oZ(l:List aV)(t:Nat):demand l t=sumOf (l.map λ x=>x.need*s_ x t):=by
 unfold demand;congr 1;refine gu λ x _=>?_
 unfold s_;by_cases h:t<x.due
 .rw[au h,au h,TR]
 .rw[ao h,ao h,j9]
def dH(l:List aV)(t:Nat):Nat:=sumOf (l.map λ x=>if uY x t=true then x.need else 0)
theorem yh{α:Type}(g h:α ->Nat)(l:List α):sumOf (l.map λ x=>g x+h x)=sumOf (l.map g)+sumOf (l.map h):=by
 induction l with
 |nil=>rfl
 |cons x l ih=>rw[dW,dW,dW,cS,cS,cS,ih];omega
theorem C9(l:List aV):demand l 0=dH l 0:=by
 rw[oZ];unfold dH;congr 1;refine gu λ x _=>?_
 rw[Jt];cases uY x 0<;>simp
theorem C_{l:List aV}(hp:∀x∈l,0<x.period)(t:Nat):demand l (t+1)=demand l t+dH l (t+1):=by
 rw[oZ,oZ];unfold dH;rw[<-yh];congr 1;refine gu λ x hx=>?_
 rw[Ju (hp x hx),ML];cases uY x (t+1)<;>simp
def pre(l:List aV):Nat ->Nat
 |0=>0
 |t+1=>demand l t
theorem Ny{l:List aV}(hp:∀x∈l,0<x.period)(t:Nat):pre l t+dH l t=demand l t:=by
 cases t with
 |zero=>rw[C9];exact LN _
 |succ t=>rw[C_ hp];rfl
theorem Db(l:List aV)(x:aV)(t:Nat):dH (l++[x]) t=dH l t+if uY x t=true then x.need else 0:=by
 unfold dH;rw[dZ,Ay,dW,vW,cS,s0,Hy]
theorem Ff{p:Nat ->Bool}{n t:Nat}(ht:t<n)(h:p t=true)(hn:∀s,s<t ->p s=false):(bf n).find? p=some t:=by
 rw[List.find?_eq_some_iff_append];refine⟨h,bf t,(bf (n -t -1)).map (·+(t+1)),?_,λ s hs=>?_⟩
 .refine kn i6 λ i h1 h2=>?_
  rw[mM,List.getElem_append];split
  .rw[mM]
  .rename_i q
   rw[ko]at q;rw[List.getElem_cons];split
   .rename_i z;rw[ko]at z;omega
   .rw[fW,mM];simp only[ko]at*;omega
 .rw[hn s (gB.mp hs)];rfl
theorem uZ{p:Nat ->Bool}{n:Nat}(hn:∀s,s<n ->p s=false):(bf n).find? p=none:=by
 rw[Ug];intro x hx;rw[hn x (gB.mp hx)]
 decide
theorem Jv{l:List aV}{t:Nat}(ht:t<=lcmOf l)(h:t<demand l t)(hn:∀s,s<t ->¬s<demand l s):overload l=some t:=
 Ff (aaT ht) (bO h) λ s hs=>gh (hn s hs)
theorem Jw{l:List aV}(hn:∀s,s<=lcmOf l ->¬s<demand l s):overload l=none:=
 uZ λ s hs=>gh (hn s (Uh hs))
def fm(g:Nat ->Nat)(x:aV)(i t:Nat):Nat:=g t+if uY x t=true/\(t -x.due)/x.period<i then x.need else 0
theorem AA(g:Nat ->Nat)(x:aV)(t:Nat):fm g x 0 t=g t:=by
 unfold fm;rw[ao (λ z=>zk _ z.2)];rfl
theorem AB{g:Nat ->Nat}{x:aV}(hp:0<x.period)(i t:Nat):fm g x (i+1) t=if t=x.due+i*x.period then fm g x i t+x.need else fm g x i t:=by
 unfold fm uY;by_cases h:t=x.due+i*x.period
 .rw[au h];have e:t -x.due=x.period*i:=by rw[j9];omega
  have d:(t -x.due)/x.period=i:=by rw[e];exact zb _ hp
  have m:(t -x.due) % x.period=0:=by rw[e];exact aaW _ _
  rw[au ⟨by simp;exact⟨ah,m⟩,ah⟩,ao (λ z=>by have:=z.2;omega)];rfl
 .rw[ao h];congr 1;by_cases z:(decide (x.due<=t)&&decide ((t -x.due) % x.period=0))=true/\(t -x.due)/x.period<i
  .rw[au z,au ⟨z.1,by have:=z.2;omega⟩]
  .rw[ao z,ao]
   rintro ⟨z1,z2⟩
   refine z ⟨z1,?_⟩;rw[bq,bc,bc]at z1;have dm:=Nw (t -x.due) x.period;rw[z1.2,Hy]at dm;refine Nat.lt_of_le_of_ne (Uh z2) λ q=>h ?_
   rw[q,j9]at dm;have:=z1.1;omega
theorem Dc{l:List aV}{x:aV}{last i t:Nat}(hp:0<x.period)(hi:last<x.due+i*x.period)(ht:t<=last):fm (dH l) x i t=dH (l++[x]) t:=by
 rw[Db];unfold fm;congr 1;by_cases z:uY x t=true
 .have hd:(t -x.due)/x.period<i:=by
   rw[Nat.div_lt_iff_lt_mul hp];unfold uY at z;simp at z;omega
  rw[au z,au ⟨z,hd⟩]
 .rw[ao z,ao (λ q=>z q.1)]
def u4(l:List aV)(i r:Nat):Nat:=(l.getD i ⟨1,0,0⟩).need+sumOf ((l.take i).map λ h=>(r+h.period -1)/h.period*h.need)
theorem oB(l:List aV)(i n r:Nat):settle l i (n+1) r=if(l.getD i ⟨1,0,0⟩).due<u4 l i r then none else if u4 l i r=r then some r else settle l i n (u4 l i r):=rfl
theorem Fg{α:Type}{g h:α ->Nat}(l:List α)(e:∀x∈l,g x<=h x):sumOf (l.map g)<=sumOf (l.map h):=by
 induction l with
 |nil=>exact ci _
 |cons x l ih=>
  rw[dW,dW,cS,cS];have h1:=e x fM;have h2:=ih λ y hy=>e y (ff _ hy)
  omega
theorem Nz(l:List aV)(i:Nat){r r':Nat}(h:r<=r'):u4 l i r<=u4 l i r':=by
 unfold u4;refine Zf (Fg _ λ x _=>aaX _ (Nat.div_le_div_right ?_)) _;omega
structure gz(l:List aV)(i n r:Nat):Prop where
 is:response l i=settle l i n r
 le:r<=u4 l i r
 ac7:(l.getD i ⟨1,0,0⟩).due+2<=n+r
 pos:1<=n
theorem gz.init(l:List aV)(i:Nat):gz l i ((l.getD i ⟨1,0,0⟩).due+2) (l.getD i ⟨1,0,0⟩).need:=⟨rfl,pK _ _,pK _ _,ah⟩
theorem gz.none{l:List aV}{i n r:Nat}(I:gz l i n r)(h:(l.getD i ⟨1,0,0⟩).due<u4 l i r):response l i=none:=by
 obtain⟨k,rfl⟩:∃k,n=k+1:=⟨n -1,by have:=I.pos;omega⟩;rw[I.is,oB,au h]
theorem gz.some{l:List aV}{i n r:Nat}(I:gz l i n r)(h:¬(l.getD i ⟨1,0,0⟩).due<u4 l i r)(e:u4 l i r=r):response l i=some r:=by
 obtain⟨k,rfl⟩:∃k,n=k+1:=⟨n -1,by have:=I.pos;omega⟩;rw[I.is,oB,ao h,au e]
theorem gz.step{l:List aV}{i n r:Nat}(I:gz l i n r)(h:¬(l.getD i ⟨1,0,0⟩).due<u4 l i r)(e:¬u4 l i r=r):∃k,gz l i k (u4 l i r)/\r<u4 l i r:=by
 have h1:=I.le;have h2:=I.ac7;have h3:=I.pos;obtain⟨k,rfl⟩:∃k,n=k+1:=⟨n -1,ah⟩;exact⟨k,⟨by rw[I.is,oB,ao h,ao e],Nz l i h1,ah,ah⟩,ah⟩
structure PS where
 done:Nat
 left:Nat
 longest:Nat
def p8(x:aV×Nat)(t:Nat):Nat:=if t<=x.2 then 0 else(t -1 -x.2)/x.1.period+1
def fR(x:aV×Nat)(t:Nat):Bool:=decide (x.2<=t)&&decide ((t -x.2) % x.1.period=0)
theorem xb{x:aV×Nat}(hp:0<x.1.period)(t:Nat):p8 x (t+1)=p8 x t+if fR x t=true then 1 else 0:=by
 unfold p8 fR;by_cases h:t+1<=x.2
 .rw[au h,au ah,ao i6]
 .rw[ao h];by_cases h2:t<=x.2
  .have e:t+1 -1 -x.2=0:=by omega
   have e2:t -x.2=0:=by omega
   rw[au h2,e,e2,au i6];simp
  .rw[ao h2,show t+1 -1 -x.2=(t -1 -x.2)+1 by omega,xa hp,show t -x.2=(t -1 -x.2)+1 by omega];by_cases h3:((t -1 -x.2)+1) % x.1.period=0
   .rw[au h3,au (by simp;exact⟨ah,h3⟩)]
   .rw[ao h3,ao (by simp;exact λ _=>h3)]
theorem Wh{x:aV×Nat}(hp:0<x.1.period){t:Nat}(h:fR x t=true):t=x.2+p8 x t*x.1.period:=by
 unfold fR at h;rw[bq,bc,bc]at h;obtain⟨h1,h2⟩:=h;unfold p8;by_cases h3:t<=x.2
 .rw[au h3];omega
 .rw[ao h3];have e:t -x.2=(t -1 -x.2)+1:=by omega
  have d:=xa (a:=t -1 -x.2) hp;rw[<-e,au h2]at d;have dm:=Nw (t -x.2) x.1.period;rw[h2,d,j9]at dm;omega
theorem Fh{x:aV×Nat}(hp:0<x.1.period){d t:Nat}:d<p8 x (t+1)↔x.2+d*x.1.period<=t:=by
 unfold p8;by_cases h:t+1<=x.2
 .rw[au h];constructor
  .intro z;omega
  .intro z;have:0<=d*x.1.period:=ia _;omega
 .rw[ao h,show t+1 -1 -x.2=t -x.2 by omega,Nat.lt_succ_iff,NA hp];omega
def xc(x:aV×Nat)(d left c:Nat):List (Nat×Nat):=match c -d with
 |0=>[]
 |m+1=>(x.2+d*x.1.period,left)::(bf m).map λ j=>(x.2+(d+1+j)*x.1.period,x.1.need)
theorem AC{x:aV×Nat}{d left c:Nat}(h:c<=d):xc x d left c=[]:=by
 unfold xc;rw[Nat.sub_eq_zero_of_le h]
theorem xf{x:aV×Nat}{d left c:Nat}(h:d<c):xc x d left c=(x.2+d*x.1.period,left)::xc x (d+1) x.1.need c:=by
 unfold xc;obtain⟨m,hm⟩:∃m,c -d=m+1:=⟨c -d -1,ah⟩;rw[hm];dsimp only;congr 1;cases m with
 |zero=>rw[show c -(d+1)=0 by omega];rfl
 |succ m=>
  rw[show c -(d+1)=m+1 by omega];dsimp only;rw[S4,dW,bB];congr 1;refine gu λ j _=>?_
  show(x.2+(d+1+(j+1))*x.1.period,x.1.need)=(x.2+(d+1+1+j)*x.1.period,x.1.need);rw[show d+1+(j+1)=d+1+1+j by omega]
theorem NB{x:aV×Nat}{d left c:Nat}(h:d<=c)(hl:c=d ->left=x.1.need):xc x d left (c+1)=xc x d left c++[(x.2+c*x.1.period,x.1.need)]:=by
 unfold xc;by_cases e:c=d
 .subst e;rw[show c+1 -c=0+1 by omega,Dd,hl rfl];rfl
 .obtain⟨m,hm⟩:∃m,c -d=m+1:=⟨c -d -1,ah⟩;rw[hm,show c+1 -d=(m+1)+1 by omega];dsimp only;rw[uA,dZ,dW,vW,show d+1+m=c by omega];rfl
def k0:aV×Nat:=(⟨1,0,0⟩,0)
def p0:PS:=⟨0,0,0⟩
def kd(ks:List (aV×Nat))(i:Nat):aV×Nat:=ks.getD i k0
def sd(S:List PS)(i:Nat):PS:=S.getD i p0
def ck(x:aV×Nat)(s:PS):Nat:=x.2+s.done*x.1.period
def j4(x:aV×Nat)(t:Nat)(s:PS):PS:=if s.left -1=0 then⟨s.done+1,x.1.need,max s.longest (t+1 -ck x s)⟩else{s with left:=s.left -1}
structure KWF(ks:List (aV×Nat)):Prop where
 Xy:∀x∈ks,0<x.1.period
 need:∀x∈ks,0<x.1.need
theorem kd_mem{ks:List (aV×Nat)}{i:Nat}(h:i<ks.length):kd ks i∈ks:=by
 unfold kd;rw[aG,ay h];exact gH h
structure qv(ks:List (aV×Nat))(N t:Nat)(S:List PS)(acc:List (Nat×Nat)):Prop where
 len:S.length=ks.length
 le:t<=N
 is:tookBy ks N=acc++ranked ks (N -t) t ((bf ks.length).map λ i=>xc (kd ks i) (sd S i).done (sd S i).left (p8 (kd ks i) t))
 dn:∀i,i<ks.length ->(sd S i).done<=p8 (kd ks i) t/\(p8 (kd ks i) t=(sd S i).done ->(sd S i).left=(kd ks i).1.need)/\1<=(sd S i).left
 num:∀i,i<ks.length ->(acc.filter λ e=>e.1==i).length=(sd S i).done
 lng:∀i,i<ks.length ->longestOf acc i=(sd S i).longest
theorem AD{ks:List (aV×Nat)}{g:aV×Nat ->PS}{i:Nat}(h:i<ks.length):sd (ks.map g) i=g (kd ks i):=by
 unfold sd kd;rw[aG,aG,aT,ay h];rfl
theorem qv.init{ks:List (aV×Nat)}(W:KWF ks)(N:Nat):qv ks N 0 (ks.map λ x=>⟨0,x.1.need,0⟩) []:=by
 have c0:∀x:aV×Nat,p8 x 0=0:=λ x=>by unfold p8;rw[au (ia _)]
 refine⟨by simp,ia _,?_,λ i hi=>?_,λ i hi=>?_,λ i hi=>?_⟩
 .show ranked ks N 0 (ks.map λ _=>[])=[]++ranked ks N 0 _;rw[t_];congr 1;refine kn aL λ i h1 h2=>?_
  rw[fW,fW,AC (by rw[c0];exact ia _)]
 .rw[AD hi,c0];exact⟨ci _,λ _=>rfl,W.need _ (kd_mem hi)⟩
 .rw[AD hi];rfl
 .rw[AD hi];rfl
theorem NC{ks:List (aV×Nat)}(W:KWF ks){N t:Nat}{S:List PS}{acc:List (Nat×Nat)}(I:qv ks N t S acc):
  ((ks.zip ((bf ks.length).map λ i=>xc (kd ks i) (sd S i).done (sd S i).left (p8 (kd ks i) t))).map λ e=>if e.1.2<=t/\(t -e.1.2) % e.1.1.period=0/\0<e.1.1.need then e.2++[(t,e.1.1.need)]else e.2)=
   (bf ks.length).map λ i=>xc (kd ks i) (sd S i).done (sd S i).left (p8 (kd ks i) (t+1)):=by
 refine kn aL λ i h1 h2=>?_
 have hi:i<ks.length:=by simpa using h2
 rw[fW,CM,fW,fW,mM];have ek:ks[i]=kd ks i:=by unfold kd;rw[aG,ay hi];rfl
 have hp:=W.Xy _ (kd_mem hi);obtain⟨d1,d2,d3⟩:=I.dn i hi;dsimp only;rw[ek,xb hp];by_cases hc:fR (kd ks i) t=true
 .rw[au hc,NB d1 d2,<-Wh hp hc];unfold fR at hc;rw[bq,bc,bc]at hc;rw[au ⟨hc.1,hc.2,W.need _ (kd_mem hi)⟩]
 .rw[ao hc,ao,Hy]
  rintro ⟨z1,z2,_⟩
  exact hc (by unfold fR;simp;exact⟨z1,z2⟩)
theorem oC(l:List (aV×Nat))(n t:Nat)(f:List (List (Nat×Nat))):ranked l (n+1) t f=(match(rankTick l t f).2 with|none=>[]|some e=>[e])++ranked l n (t+1) (rankTick l t f).1:=rfl
theorem qv.ac8{ks:List (aV×Nat)}(W:KWF ks){N t:Nat}{S:List PS}{acc:List (Nat×Nat)}(I:qv ks N t S acc)(ht:t<N)(h:∀i,i<ks.length ->¬ck (kd ks i) (sd S i)<=t):qv ks N (t+1) S acc:=by
 have hz:∀i,i<ks.length ->p8 (kd ks i) (t+1)<=(sd S i).done:=λ i hi=>by
  refine Hz λ z=>h i hi ((Fh (W.Xy _ (kd_mem hi))).mp z)
 refine⟨I.len,ht,?_,λ i hi=>?_,I.num,I.lng⟩
 .rw[I.is,show N -t=(N -(t+1))+1 by omega,oC];have hn:rankNext ((bf ks.length).map λ i=>xc (kd ks i) (sd S i).done (sd S i).left (p8 (kd ks i) (t+1)))=none:=by
   unfold rankNext;rw[List.findIdx?_eq_none_iff];intro q hq;obtain⟨i,hi,rfl⟩:=cY.mp hq;rw[AC (hz i (gB.mp hi))];rfl
  have pM:rankTick ks t ((bf ks.length).map λ i=>xc (kd ks i) (sd S i).done (sd S i).left (p8 (kd ks i) t))=((bf ks.length).map λ i=>xc (kd ks i) (sd S i).done (sd S i).left (p8 (kd ks i) (t+1)),none):=by
   unfold rankTick;dsimp only;rw[NC W I,hn]
  rw[pM];rfl
 .obtain⟨d1,d2,d3⟩:=I.dn i hi;have:=xb (W.Xy _ (kd_mem hi)) t;have h2:=hz i hi;have e:p8 (kd ks i) (t+1)=p8 (kd ks i) t:=by omega
  rw[e];exact⟨d1,d2,d3⟩
theorem Jx(l:List Nat)(v:Nat):(l++[v]).foldl max 0=max (l.foldl max 0) v:=by rw[MF];rfl
theorem qv.run{ks:List (aV×Nat)}(W:KWF ks){N t i:Nat}{S:List PS}{acc:List (Nat×Nat)}(I:qv ks N t S acc)(ht:t<N)(hi:i<ks.length)(ho:ck (kd ks i) (sd S i)<=t)(h:∀j,j<i ->¬ck (kd ks j) (sd S j)<=t):
  ∃Wi,qv ks N (t+1) (S.set i (j4 (kd ks i) t (sd S i))) Wi:=by
 have hs:i<S.length:=by rw[I.len];exact hi
 have hp:=W.Xy _ (kd_mem hi);have dC:(sd S i).done<p8 (kd ks i) (t+1):=(Fh hp).mpr ho;have Wj:sd (S.set i (j4 (kd ks i) t (sd S i))) i=j4 (kd ks i) t (sd S i):=by
  unfold sd;rw[aG,qF hs];rfl
 have Wk:∀j,j≠i ->sd (S.set i (j4 (kd ks i) t (sd S i))) j=sd S j:=λ j hj=>by
  unfold sd;rw[aG,o9 (qb hj),<-aG]
 obtain⟨g,hg⟩:=bS ((bf ks.length).map λ i=>xc (kd ks i) (sd S i).done (sd S i).left (p8 (kd ks i) (t+1)));have gl:g.length=ks.length:=by rw[hg];simp
 have hgi:g[i]?=some (xc (kd ks i) (sd S i).done (sd S i).left (p8 (kd ks i) (t+1))):=by
  rw[hg,aT,CS hi];rfl
 have hn:rankNext g=some i:=by
  unfold rankNext;rw[List.findIdx?_eq_some_iff_getElem];refine⟨by rw[gl];exact hi,?_,λ j hj=>?_⟩
  .rw[ay (by rw[gl];exact hi)]at hgi;rw[cT hgi,xf dC];rfl
  .have z7:j<ks.length:=by omega
   have hgj:g[j]?=some (xc (kd ks j) (sd S j).done (sd S j).left (p8 (kd ks j) (t+1))):=by
    rw[hg,aT,CS z7];rfl
   rw[ay (by rw[gl];exact z7)]at hgj;rw[cT hgj,AC]
   .decide
   .exact Hz λ z=>h j hj ((Fh (W.Xy _ (kd_mem z7))).mp z)
 have hgd:g.getD i []=(ck (kd ks i) (sd S i),(sd S i).left)::xc (kd ks i) ((sd S i).done+1) (kd ks i).1.need (p8 (kd ks i) (t+1)):=by
  rw[aG,hgi,xf dC];rfl
 have hrt:rankTick ks t ((bf ks.length).map λ i=>xc (kd ks i) (sd S i).done (sd S i).left (p8 (kd ks i) t))=if(sd S i).left=1 then(g.set i (xc (kd ks i) ((sd S i).done+1) (kd ks i).1.need (p8 (kd ks i) (t+1))),some (i,t+1 -ck (kd ks i) (sd S i)))else(g.set i ((ck (kd ks i) (sd S i),(sd S i).left -1)::xc (kd ks i) ((sd S i).done+1) (kd ks i).1.need (p8 (kd ks i) (t+1))),none):=by
  unfold rankTick;dsimp only;rw[NC W I,<-hg,hn];dsimp only;rw[hgd]
 have rows:∀(q:List (Nat×Nat)),q=xc (kd ks i) (j4 (kd ks i) t (sd S i)).done (j4 (kd ks i) t (sd S i)).left (p8 (kd ks i) (t+1)) ->g.set i q=(bf ks.length).map λ j=>xc (kd ks j) (sd (S.set i (j4 (kd ks i) t (sd S i))) j).done (sd (S.set i (j4 (kd ks i) t (sd S i))) j).left (p8 (kd ks j) (t+1)):=λ q hq=>by
  refine kn (by simp[gl]) λ j h1 h2=>?_
  rw[Ue,fW,mM];by_cases e:i=j
  .subst e;rw[au rfl,Wj,hq]
  .rw[ao e,Wk j (qb e)];simp only[hg,fW,mM]
 obtain⟨d1,d2,d3⟩:=I.dn i hi;have dnj:∀j,j<ks.length ->j≠i ->(sd S j).done<=p8 (kd ks j) (t+1)/\(p8 (kd ks j) (t+1)=(sd S j).done ->(sd S j).left=(kd ks j).1.need)/\1<=(sd S j).left:=λ j hj _=>by
  obtain⟨e1,e2,e3⟩:=I.dn j hj;have:=xb (W.Xy _ (kd_mem hj)) t;exact⟨ah,λ z=>e2 ah,e3⟩
 by_cases hl:(sd S i).left=1
 .have er:j4 (kd ks i) t (sd S i)=⟨(sd S i).done+1,(kd ks i).1.need,max (sd S i).longest (t+1 -ck (kd ks i) (sd S i))⟩:=by unfold j4;rw[au ah]
  rw[au hl]at hrt;refine⟨acc++[(i,t+1 -ck (kd ks i) (sd S i))],⟨by rw[i8];exact I.len,ht,?_,λ j hj=>?_,λ j hj=>?_,λ j hj=>?_⟩⟩
  .rw[I.is,show N -t=(N -(t+1))+1 by omega,oC,hrt,Gq];dsimp only;rw[rows _ (by rw[er])]
  .by_cases e:j=i
   .subst e;rw[Wj,er];exact⟨dC,λ _=>rfl,W.need _ (kd_mem hi)⟩
   .rw[Wk j e];exact dnj j hj e
  .rw[ND,dc,I.num j hj];by_cases e:j=i
   .subst e;rw[Wj,er];simp
   .rw[Wk j e];have:¬(i==j)=true:=λ z=>e (eq_of_beq z).symm
    simp[this,qb e]
  .have hL:=I.lng j hj;unfold longestOf at hL⊢;rw[ND,dZ];by_cases e:j=i
   .subst e;rw[Wj,er];have e1:[(j,t+1 -ck (kd ks j) (sd S j))].filter (λ e=>e.1==j)=[(j,t+1 -ck (kd ks j) (sd S j))]:=by simp
    rw[e1,dW,vW,Jx,hL]
   .rw[Wk j e];have e1:[(i,t+1 -ck (kd ks i) (sd S i))].filter (λ e=>e.1==j)=[]:=by simp[qb e]
    rw[e1,vW,tZ];exact hL
 .have er:j4 (kd ks i) t (sd S i)={sd S i with left:=(sd S i).left -1}:=by unfold j4;rw[ao ah]
  rw[ao hl]at hrt;refine⟨acc,⟨by rw[i8];exact I.len,ht,?_,λ j hj=>?_,λ j hj=>?_,λ j hj=>?_⟩⟩
  .rw[I.is,show N -t=(N -(t+1))+1 by omega,oC,hrt];dsimp only;rw[t_,rows _ (by rw[er];exact(xf dC).symm)]
  .by_cases e:j=i
   .subst e;rw[Wj,er];exact⟨Ie dC,λ z=>absurd z (by dsimp only;omega),by dsimp only;omega⟩
   .rw[Wk j e];exact dnj j hj e
  .by_cases e:j=i
   .subst e;rw[Wj,er];exact I.num j hj
   .rw[Wk j e];exact I.num j hj
  .by_cases e:j=i
   .subst e;rw[Wj,er];exact I.lng j hj
   .rw[Wk j e];exact I.lng j hj
theorem qv.fin{ks:List (aV×Nat)}{N:Nat}{S:List PS}{acc:List (Nat×Nat)}(I:qv ks N N S acc):tookBy ks N=acc:=by
 rw[I.is,Dd];exact tZ _
def cc(n:Nat)(l:List Int):List (List Int):=(bf ((l.length+n -1)/n)).map λ k=>(l.drop (k*n)).take n
def De(g:List Int)(rs:List (Int×Int)):Bool:=(g.zip rs).all λ e=>isIn e.1 e.2.1 e.2.2
theorem xg{n:Nat}(hn:0<n){a r:List Int}(ha:a.length=n):cc n (a++r)=a::cc n r:=by
 unfold cc;have e:((a++r).length+n -1)/n=(r.length+n -1)/n+1:=by
  rw[dc,ha,show n+r.length+n -1=(r.length+n -1)+n by omega,aaY _ hn]
 rw[e,S4,dW,bB];congr 1
 .rw[aaZ,aa0,aa1 ah,nG ah]
 .refine gu λ k _=>?_
  show((a++r).drop ((k+1)*n)).take n=_;rw[Hg,MO,YH,<-GK,aa2 ah,Ui (by omega:a.length<=n),t_]
theorem zl{n:Nat}(hn:0<n):cc n []=[]:=by
 unfold cc;rw[show(([]:List Int).length+n -1)/n=0 from Uf (by show 0+n -1<n;omega)];rfl
theorem xh:∀(l:List Int),l.length % 3=0 ->cc 3 l=(threes l).map λ e=>[e.1,e.2.1,e.2.2]
 |[],_=>zl zq_dc
 |[_],h=>absurd h (by show¬1 % 3=0;decide)
 |[_,_],h=>absurd h (by show¬2 % 3=0;decide)
 |a::b::c::r,h=>by
  have h':r.length % 3=0:=by
   have:(r.length+3) % 3=0:=h;omega
  rw[show a::b::c::r=[a,b,c]++r from rfl,xg (n:=3) (a:=[a,b,c]) zq_dc rfl,xh r h'];rfl
theorem Fi:∀(l:List Int),l.length % 4=0 ->cc 4 l=(fours l).map λ e=>[e.1,e.2.1,e.2.2.1,e.2.2.2]
 |[],_=>zl zq_dc
 |[_],h=>absurd h (by show¬1 % 4=0;decide)
 |[_,_],h=>absurd h (by show¬2 % 4=0;decide)
 |[_,_,_],h=>absurd h (by show¬3 % 4=0;decide)
 |a::b::c::d::r,h=>by
  have h':r.length % 4=0:=by
   have:(r.length+4) % 4=0:=h;omega
  rw[show a::b::c::d::r=[a,b,c,d]++r from rfl,xg (n:=4) (a:=[a,b,c,d]) zq_dc rfl,Fi r h'];rfl
def rR(l:List Int)(rs:List (Int×Int))(c:Int×Int):Bool:=decide (l.length % rs.length=0)&&(isIn ((l.length/rs.length:Nat):Int) c.1 c.2&&(cc rs.length l).all λ g=>De g rs)
def Fj(g:List Int):Bool:=decide (g.getD 2 0<=g.getD 0 0)
def AE(l:List Int)(rs:List (Int×Int)):Bool:=rR l rs (1,6)&&(cc rs.length l).all Fj
theorem Rv(l:List Int):rR l [(0,60),(1,20),(0,200)] (0,12)=onceOk l:=by
 unfold rR onceOk;by_cases h:l.length % 3=0
 .show(decide (l.length % 3=0)&&(isIn ((l.length/3:Nat):Int) 0 12&&(cc 3 l).all λ g=>De g _))=_;rw[xh l h,ua];congr 1;congr 1
  .unfold isIn;rw[kH];simp only[bq,bc];omega
  .congr 1
   funext e
   show(isIn e.1 0 60&&(isIn e.2.1 1 20&&(isIn e.2.2 0 200&&true)))=_;rw[kq]
 .show(decide (l.length % 3=0)&&_)=_;rw[gh h];rfl
theorem xi(l:List Int):AE l [(1,12),(1,12),(1,12)]=againOk l:=by
 unfold AE rR againOk;by_cases h:l.length % 3=0
 .show((decide (l.length % 3=0)&&(isIn ((l.length/3:Nat):Int) 1 6&&(cc 3 l).all λ g=>De g _))&&(cc 3 l).all Fj)=_;rw[xh l h,ua,ua,zm,zm];congr 1;rw[<-zm (decide (3<=l.length))];congr 1
  .unfold isIn;rw[kH];simp only[bq,bc];omega
  .rw[kH,bq,fG,fG,fG];have key:∀e:Int×Int×Int,((isIn e.1 1 12&&(isIn e.2.1 1 12&&(isIn e.2.2 1 12&&true)))=true/\decide (e.2.2<=e.1)=true)↔(isIn e.1 1 12&&(isIn e.2.1 1 12&&isIn e.2.2 1 e.1))=true:=λ e=>by
    unfold isIn;simp only[bq,bc,kq];omega
   constructor
   .rintro ⟨h1,h2⟩ e he
    exact(key e).mp ⟨h1 e he,h2 e he⟩
   .intro h1;exact⟨λ e he=>((key e).mpr (h1 e he)).1,λ e he=>((key e).mpr (h1 e he)).2⟩
 .show((decide (l.length % 3=0)&&_)&&_)=_;rw[gh h];rfl
theorem Rw(l:List Int):AE l [(1,12),(1,12),(1,12),(0,30)]=rankOk l:=by
 unfold AE rR rankOk;by_cases h:l.length % 4=0
 .show((decide (l.length % 4=0)&&(isIn ((l.length/4:Nat):Int) 1 6&&(cc 4 l).all λ g=>De g _))&&(cc 4 l).all Fj)=_;rw[Fi l h,ua,ua,zm,zm];congr 1;rw[<-zm (decide (4<=l.length))];congr 1
  .unfold isIn;rw[kH];simp only[bq,bc];omega
  .rw[kH,bq,fG,fG,fG];have key:∀e:Int×Int×Int×Int,((isIn e.1 1 12&&(isIn e.2.1 1 12&&(isIn e.2.2.1 1 12&&(isIn e.2.2.2 0 30&&true))))=true/\decide (e.2.2.1<=e.1)=true)↔(isIn e.1 1 12&&(isIn e.2.1 1 12&&(isIn e.2.2.1 1 e.1&&isIn e.2.2.2 0 30)))=true:=λ e=>by
    unfold isIn;simp only[bq,bc,kq];omega
   constructor
   .rintro ⟨h1,h2⟩ e he
    exact(key e).mp ⟨h1 e he,h2 e he⟩
   .intro h1;exact⟨λ e he=>((key e).mpr (h1 e he)).1,λ e he=>((key e).mpr (h1 e he)).2⟩
 .show((decide (l.length % 4=0)&&_)&&_)=_;rw[gh h];rfl
theorem zn{l:List Int}(h:onceOk l=true):l.length % 3=0/\l.length<=36/\cc 3 l=(oncesOf l).map λ x=>[(x.come:Int),(x.need:Int),(x.due:Int)]:=by
 unfold onceOk at h;rw[bq,bq,bc,bc,fG]at h;obtain⟨h1,h2,h3⟩:=h;refine⟨h1,h2,?_⟩;rw[xh l h1];unfold oncesOf;rw[bB];refine gu λ e he=>?_
 have:=h3 e he;unfold isIn at this;simp only[bq,bc]at this;show [e.1,e.2.1,e.2.2]=[((e.1.toNat:Nat):Int),((e.2.1.toNat:Nat):Int),((e.2.2.toNat:Nat):Int)];rw[rS ah,rS ah,rS ah]
theorem o4{l:List Int}(h:onceOk l=true):(oncesOf l).length<=12/\∀x∈oncesOf l,0<x.need/\x.need<=20/\x.come<=60/\x.due<=200:=by
 have hr:=(zn h).2.2;unfold onceOk at h;rw[bq,bq,bc,bc,fG]at h;obtain⟨h1,h2,h3⟩:=h;constructor
 .have:=congrArg nA hr;unfold cc at this;simp at this;omega
 .intro x hx;unfold oncesOf at hx;obtain⟨e,he,rfl⟩:=cY.mp hx;have:=h3 e he;unfold isIn at this;simp only[bq,bc]at this;dsimp only;omega
theorem xj{l:List Int}(h:againOk l=true):l.length % 3=0/\l.length<=18/\cc 3 l=(againsOf l).map λ x=>[(x.period:Int),(x.need:Int),(x.due:Int)]:=by
 unfold againOk at h;rw[bq,bq,bq,bc,bc,bc,fG]at h;obtain⟨h1,h0,h2,h3⟩:=h;refine⟨h1,h2,?_⟩;rw[xh l h1];unfold againsOf;rw[bB];refine gu λ e he=>?_
 have:=h3 e he;unfold isIn at this;simp only[bq,bc]at this;show [e.1,e.2.1,e.2.2]=[((e.1.toNat:Nat):Int),((e.2.1.toNat:Nat):Int),((e.2.2.toNat:Nat):Int)];rw[rS ah,rS ah,rS ah]
theorem l5{l:List Int}(h:againOk l=true):(againsOf l).length<=6/\∀x∈againsOf l,0<x.need/\x.need<=12/\0<x.period/\x.period<=12/\0<x.due/\x.due<=12:=by
 have hr:=(xj h).2.2;unfold againOk at h;rw[bq,bq,bq,bc,bc,bc,fG]at h;obtain⟨h1,h0,h2,h3⟩:=h;constructor
 .have:=congrArg nA hr;unfold cc at this;simp at this;omega
 .intro x hx;unfold againsOf at hx;obtain⟨e,he,rfl⟩:=cY.mp hx;have:=h3 e he;unfold isIn at this;simp only[bq,bc]at this;dsimp only;omega
theorem zo{l:List Int}(h:rankOk l=true):l.length % 4=0/\l.length<=24/\cc 4 l=(ranksOf l).map λ x=>[(x.1.period:Int),(x.1.need:Int),(x.1.due:Int),(x.2:Int)]:=by
 unfold rankOk at h;rw[bq,bq,bq,bc,bc,bc,fG]at h;obtain⟨h1,h0,h2,h3⟩:=h;refine⟨h1,h2,?_⟩;rw[Fi l h1];unfold ranksOf;rw[bB];refine gu λ e he=>?_
 have:=h3 e he;unfold isIn at this;simp only[bq,bc]at this;show [e.1,e.2.1,e.2.2.1,e.2.2.2]=[((e.1.toNat:Nat):Int),((e.2.1.toNat:Nat):Int),((e.2.2.1.toNat:Nat):Int),((e.2.2.2.toNat:Nat):Int)];rw[rS ah,rS ah,rS ah,rS ah]
theorem zp{l:List Int}(h:rankOk l=true):(ranksOf l).length<=6/\∀x∈ranksOf l,0<x.1.need/\x.1.need<=12/\0<x.1.period/\x.1.period<=12/\0<x.1.due/\x.1.due<=12/\x.2<=30:=by
 have hr:=(zo h).2.2;unfold rankOk at h;rw[bq,bq,bq,bc,bc,bc,fG]at h;obtain⟨h1,h0,h2,h3⟩:=h;constructor
 .have:=congrArg nA hr;unfold cc at this;simp at this;omega
 .intro x hx;unfold ranksOf at hx;obtain⟨e,he,rfl⟩:=cY.mp hx;have:=h3 e he;unfold isIn at this;simp only[bq,bc]at this;dsimp only;omega
def AF(l:List Once)(a b:Nat):Prop:=b -a<between l a b
theorem Fk{l:List Once}(h:∀b∈l.map (·.due),∀a∈l.map (·.come),¬AF l a b):tight l=none:=by
 unfold tight;show List.find? _ (aa3 _ _)=none;rw[Ug];intro e he;rw[List.mem_flatMap]at he;obtain⟨b,hb,he⟩:=he;obtain⟨a,ha,rfl⟩:=cY.mp he;rw[bc];exact h b ((iu (g:=(·.due))).mp hb) a ((iu (g:=(·.come))).mp ha)
theorem Fl{l:List Once}{a b:Nat}(hb:b∈l.map (·.due))(ha:a∈l.map (·.come))(h:AF l a b)(h1:∀b'∈l.map (·.due),b'<b ->∀a'∈l.map (·.come),¬AF l a' b')(h2:∀a'∈l.map (·.come),a'<a ->¬AF l a' b):tight l=some (a,b):=by
 unfold tight;show List.find? _ (aa3 _ _)=_;rw[List.find?_flatMap,kP (rP (g:=(·.due)) (l:=l))];refine⟨b,(iu (g:=(·.due))).mpr hb,?_,λ b' j7 dC=>?_⟩
 .rw[List.find?_map,Jr];have:List.findSome? (λ x=>if(decide ((λ e:Nat×Nat=>decide (e.2 -e.1<between l e.1 e.2)) (x,b))=true)then some x else none) ((bf ((l.foldl (λ a x=>max a x.come) 0)+1)).filter (λ a=>l.any λ x=>x.come==a))=some a:=by
   rw[kP (rP (g:=(·.come)) (l:=l))];refine⟨a,(iu (g:=(·.come))).mpr ha,?_,λ a' Wl dC=>?_⟩
   .simp only[bc];exact au h
   .simp only[bc];exact ao (h2 a' ((iu (g:=(·.come))).mp Wl) dC)
  simp only[bc]at this;simp only[Function.comp_def,bc];rw[this];rfl
 .rw[Ug];intro e he;obtain⟨a',Wl,rfl⟩:=cY.mp he;rw[bc];exact h1 b' ((iu (g:=(·.due))).mp j7) dC a' ((iu (g:=(·.come))).mp Wl)
theorem rT{α β:Type}(p:α ->Bool)(g:α ->β)(l:List α)(d:α):(bf l.length).filterMap (λ i=>if p (l.getD i d)=true then some (g (l.getD i d))else none)=(l.filter p).map g:=by
 have e:(bf l.length).filterMap (λ i=>if p (l.getD i d)=true then some (g (l.getD i d))else none)=((bf l.length).map λ i=>l.getD i d).filterMap λ x=>if p x=true then some (g x)else none:=by
  rw[NE];rfl
 have e2:(bf l.length).map (λ i=>l.getD i d)=l:=by
  refine kn aL λ i h1 h2=>?_
  rw[fW,mM,aG,ay h2];rfl
 rw[e,e2];induction l with
 |nil=>rfl
 |cons x l ih=>
  rw[Bp,gZ];have ih':=ih (by rw[NE];rfl) (by
   refine kn aL λ i h1 h2=>?_
   rw[fW,mM,aG,ay h2];rfl)
  by_cases h:p x=true
  .rw[au h,au h,ih',dW]
  .rw[ao h,ao h,ih']
theorem vB(l:List Nat):(l.map λ n:Nat=>(n:Int)).sum=(sumOf l:Nat):=by
 induction l with
 |nil=>rfl
 |cons x l ih=>rw[dW,List.sum_cons,ih,cS];omega
theorem HA{l:List Nat}(h:l.Pairwise (·<=·)){i j:Nat}(hi:i<l.length)(hj:j<l.length)(hij:l[j]<l[i]):j<i:=by
 refine p6 λ z=>?_
 rcases Nat.lt_or_eq_of_le (Hz z)with q|q
 .have:=(Zk.mp h) i j hi hj q;omega
 .subst q;omega
theorem Df{l:List Nat}{i j:Nat}(hj:j<l.length)(h:j<i):l[j]∈l.take i:=by
 rw[List.mem_take_iff_getElem];exact⟨j,ah,rfl⟩
theorem HB{ns:List Int}{g:List Nat}(hp:ns.Perm (g.map λ n:Nat=>(n:Int)))(hs:ns.Pairwise (·<=·)):∃l:List Nat,ns=l.map (λ n:Nat=>(n:Int))/\l.Pairwise (·<=·)/\(∀x,x∈l↔x∈g)/\l.length=g.length:=by
 have h0:∀z∈ns,((z.toNat:Nat):Int)=z:=λ z hz=>by
  obtain⟨n,_,e⟩:=cY.mp (hp.mem_iff.mp hz);omega
 have e:ns=(ns.map Int.toNat).map (λ n:Nat=>(n:Int)):=by
  rw[bB]
  conv=>lhs;rw[<-uq ns]
  exact gu λ z hz=>(h0 z hz).symm
 refine⟨ns.map Int.toNat,e,?_,λ x=>?_,by rw[ak,hp.length_eq,ak]⟩
 .rw[Zj];exact hs.imp λ h=>Int.toNat_le_toNat h
 .constructor
  .intro hx;obtain⟨z,hz,rfl⟩:=cY.mp hx;obtain⟨n,hn,e⟩:=cY.mp (hp.mem_iff.mp hz);rw[show z.toNat=n by omega];exact hn
  .intro hx;have:((x:Nat):Int)∈ns:=hp.mem_iff.mpr (cY.mpr ⟨x,hx,rfl⟩);exact cY.mpr ⟨_,this,k9 x⟩
theorem NF(n:Int):dO (partOf n)=n:=by
 unfold partOf;by_cases h:0<n
 .rw[au h];show((n.toNat:Nat):Int)=n;omega
 .rw[ao h];show-(((-n).toNat:Nat):Int)=n;omega
theorem Fm(l:List Int):(l.map partOf).map dO=l:=by
 rw[bB]
 conv=>rhs;rw[<-uq l]
 exact gu λ n _=>NF n
theorem NG{l:List Int}(h:partsOk l=true):rE (l.map partOf):=by
 unfold partsOk at h;rw[bq,bq,bq,bq,bc,bc,bc,fG,fG]at h;obtain⟨⟨l1,l2⟩,ha,hh,hl,hz⟩:=h;have at1:∀(i:Nat)(p:Part),(l.map partOf)[i]?=some p ->∃(hi:i<l.length),p=partOf l[i]:=λ i p e=>by
  rw[aT]at e;cases q:l[i]?with
  |none=>rw[q]at e;cases e
  |some z=>
   rw[q]at e;obtain⟨hi,ez⟩:=gM.mp q;exact⟨hi,by rw[ez];exact(cT e).symm⟩
 have nz:∀i (hi:i<l.length),l[i]≠0:=λ i hi=>by
  have:=ha _ (gH hi);rw[bq]at this;simpa using this.2
 refine⟨?_,λ i n e=>?_,λ i n e=>?_⟩
 .match l,l1,hh with
  |a::r,_,hh=>
   have h0:0<a:=hh;refine⟨a.toNat,ah,?_⟩;show some (partOf a)=_;unfold partOf;rw[au h0]
 .obtain⟨hi,e2⟩:=at1 i _ e;have neg:¬0<l[i]:=λ q=>by
   unfold partOf at e2;rw[au q]at e2;cases e2
  have hn:n=(-l[i]).toNat:=by
   unfold partOf at e2;rw[ao neg]at e2
   injection e2
  have h0:=nz i hi;refine⟨ah,?_⟩;have hi1:i+1<l.length:=by
   refine p6 λ z=>?_
   have:i=l.length -1:=by omega
   have el:l.getLastD 0=l[i]:=by
    rw[aaG,TX,<-this,ay hi];rfl
   rw[el]at hl;exact neg hl
  have hp:(l[i],l[i+1])∈l.zip (l.drop 1):=by
   have:(l.zip (l.drop 1))[i]?=some (l[i],l[i+1]):=by
    rw[GJ];refine⟨ay hi,?_⟩;rw[GI,show 1+i=i+1 by omega];exact ay hi1
   exact cH this
  have:=hz _ hp;rw[lc,bc,bc]at this;have h2:0<l[i+1]:=by
   rcases this with q|q
   .exact absurd q neg
   .exact q
  refine⟨(l[i+1]).toNat,?_⟩;rw[aT,ay hi1];show some (partOf l[i+1])=_;unfold partOf;rw[au h2]
 .obtain⟨hi,e2⟩:=at1 i _ e;have pos:0<l[i]:=by
   refine p6 λ q=>?_
   unfold partOf at e2;rw[ao q]at e2;cases e2
  have hn:n=(l[i]).toNat:=by
   unfold partOf at e2;rw[au pos]at e2
   injection e2
  omega
end JS
namespace JS
open PySem PySem.Spec PyProof.Rows L2
structure CB where
 cK:Addr
 cP:Addr
 cO:Addr
 cL:Addr
 cR:Addr
def tj(P:dz)(w:c9)(K:aE)(mg:Str ->Option aq)(base:Heap)(x:Str)(c:Addr)(ps:List Str)(k:Nat)(sp:Sp):Prop:=
 ∃(f:Addr)(fd:bp),mg x=some (.ref c)/\Mk K c f/\j6 K fd ps []/\bj P w K mg base CX0 k f fd ps sp
theorem g_{X:Cx}{x:Str}{c:Addr}{ps:List Str}{k:Nat}{sp:Sp}{p pos:Pos}{e:Expr}{es:List Expr}{t:TA}(D:tj X.prog X.w X.K X.mg X.base x c ps k sp)(hr:dR (k+1) X.A)(hg:Gl X x)(ha:PA X (e::es) t)
  (Ei:(x==("__debug__":Str))=false:=by decide) (he:starEach (e::es) X.aC=(false,eval e X.aC)::starEach es X.aC:=by rfl) (pc:(backTo pos (starEach es X.aC)).any (·.1)=false:=by rfl):
  PE X (.Call (.Name x p) (e::es) [] pos) (qI c sp [] E0 t):=by
 obtain⟨f,fd,hm,M,hb,F⟩:=D;exact Qc M F hr hg hm hb .nil yN ha Ei he pc
theorem YQ.up{i j c:Nat}(hc:0<c)(Pz:c<=1000)(hi:i<=1000000)(hj:j<=1000000):YQ (i:Int) (j:Int) (c:Int) ((j -i+c -1)/c):=by
 have e:PP (i:Int) (j:Int) (c:Int)=(((j -i+c -1)/c:Nat):Int):=by
  unfold PP;rw[au ah];by_cases h:i<j
  .rw[au ah];have e1:j -i+c -1=(j -i -1)+c:=by omega
   rw[e1,aaY _ hc];have e2:(j:Int) -(i:Int) -1=((j -i -1:Nat):Int):=by omega
   rw[e2]
   norm_cast
  .rw[ao ah,show j -i=0 by omega,Uf ah];rfl
 have hb:(j -i+c -1)/c<=1001000:=fB (NH _ _) ah;refine⟨ah,ah,?_,e⟩;unfold YR;rw[e];generalize(j -i+c -1)/c=n at hb⊢;rw[au (show(c:Int)>0 by omega)];simp only[adS,bq,lc,bc,j5];refine⟨⟨⟨⟨?_,?_⟩,?_,?_⟩,?_,?_⟩,.inr ⟨?_,?_⟩⟩<;>omega
section
variable{P:dz}{w:c9}{K:aE}{mg:Str ->Option aq}{base:Heap}{C:CA}{B:CB}{f:Addr}{fd:bp}
def Fn(gs:List (List Int)):Nat ->Addr ->HO:=λ j _=>.aD ((gs.getD j []).map V.int)
def lB(K:aE):Sp:=λ vs H Q _=>∃(ra:Addr)(row:List Int)(n:Nat),vs=[.ref ra,.int n]/\aP K H ra (row.map V.int)/\0<n/\n<=100/\row.length<=100/\
 ∀p H' bs,H p=none ->ae H H' ->bs.length=(cc n row).length ->bU (Fn (cc n row)) H' p bs ->Q (.ref p) H'
theorem Jy(F:bi K "in_groups" oe f fd)(T:Txt K mg C):bj P w K mg base CX0 1 f fd [c_,"size"] (lB K):=by
 refine F.ok [c_,"size","k"] λ b_ A aA s H vs Q E hr h nd=>?_
 obtain⟨ra,row,n,rfl,hl,n0,n1,mW,k⟩:=h;refine⟨_,af (aw (iL (own:=[("k",2)]) (tt:=jE) rfl nd (yK rfl (T.bu _ zq_dk) (jG am (aY aW (by rfl) (T.bu _ zq_dk) eX (aO (pv 0))) (pv 1))) (bP (by show gW [c_,"size","k"] (aJ oe) _ _=true;decide+kernel)) (λ _ _ _ _ _=>by exact aU (i:=2) nd rfl (aH rfl)) (λ _ _ _ _ _=>by exact di)
  (te:=tSl (YA K) (bQ 0) (K8 (bQ 2)) (K8 (tU (zL λ i j=>.int (i+j)) (bQ 2) (bQ 1)))) (λ _ _ _ _ _=>by exact nE qN (pv 0) (j8 (pv 2)) (j8 (bG eh (pv 2) (pv 1)))))),?_⟩
 try dsimp only [bx,Cx.dJ]
 have bH:(cc n row).length=(row.length+n -1)/n:=by unfold cc;rw[ak,ko]
 have hR:=YQ.up (i:=0) (j:=row.length) n0 ah ah ah;rw[aa4,<-bH]at hR;refine⟨_,rfl,ra,_,rfl,.inl hl,_,rfl,_,_,_,(cc n row).length,rfl,(by rw[ak];exact hR),λ D hD=>?_⟩;have zX:(cc n row).length<=200:=by
  rw[bH];exact fB (NH _ _) ah
 refine rO (C5) (Fn (cc n row)) hD ah (λ i x H1 H2 Qy Qn hi s1 eG hy=>?_) (λ H1 bs s1 hb R1 _=>k D H1 bs hD s1 hb R1);obtain⟨rfl,rfl⟩:=eG;have i9:i*n<=row.length:=by
  rw[bH]at hi;have:(i+1)*n<=row.length+n -1:=(NA n0).mp hi;rw[Hg]at this;omega
 refine⟨rfl,_,rfl,_,rfl,_,rfl,_,rfl,_,rfl,_,_,rfl,rfl,_,rfl,ra,_,rfl,ae.seq s1 hl,λ q hq=>?_⟩;refine hy q _ hq (ae.new hq) ⟨0,?_⟩;rw[aa];have e0:(0:Int)+(i:Nat)*(n:Int)=((i*n:Nat):Int):=by rw[NI];norm_cast
 show some (HO.aD (qL (row.map V.int) (some ((0:Int)+(i:Nat)*(n:Int))) (some ((0:Int)+(i:Nat)*(n:Int)+(n:Int)))))=_;rw[e0,As (by rw[ak];exact i9)];unfold Fn cc;rw[aG,aT,CS (by rw[<-bH];exact hi)];show some (HO.aD _)=some (HO.aD (((row.drop (i*n)).take n).map V.int));rw[Hu,C1]
theorem g8.same{K:aE}{H H':Hp}{ra:Addr}{rs:List (Int×Int)}(h:g8 K H ra rs)(s:ae H H'):g8 K H' ra rs:=
 let⟨bs,h1,h2,h3⟩:=h
 ⟨bs,ae.Rh s h1,h2,λ i b r e1 e2=>ae.Rh s (h3 i b r e1 e2)⟩
theorem g8.fc{K:aE}{H:Hp}{ra:Addr}{rs:List (Int×Int)}(h:g8 K H ra rs):∃ys:List V,e9 K H ra ys/\ys.length=rs.length:=
 let⟨bs,h1,h2,_⟩:=h
 ⟨_,h1,by rw[ak,h2]⟩
theorem zq{n:Nat}(hn:0<n){l:List Int}(h:l.length % n=0):∀g∈cc n l,g.length=n:=by
 intro g hg;unfold cc at hg;obtain⟨k,hk,rfl⟩:=cY.mp hg;rw[gB]at hk;have h1:(k+1)*n<=l.length+n -1:=(NA hn).mp hk;obtain⟨q,hq⟩:=Nat.dvd_of_mod_eq_zero h;rw[k7,mj];have h2:k+1<=q:=by
  refine Hz λ z=>?_
  have:(q+1)*n<=(k+1)*n:=aaX _ z;rw[Hg,j9 q n]at this;omega
 have h3:n*(k+1)<=n*q:=Nat.mul_le_mul_left _ h2;rw[ML,j9 n k]at h3;omega
theorem gA{α:Type}(g:Nat ->α)(n:Nat):(bf n).filterMap (λ i=>some (g i))=(bf n).map g:=by
 induction n with
 |zero=>rfl
 |succ n ih=>rw[oz,ih,uA,dZ];rfl
theorem fQ{α β:Type}(g:α ->β)(l:List α)(d:α):(bf l.length).map (λ i=>g (l.getD i d))=l.map g:=by
 refine kn aL λ i h1 h2=>?_
 have hi:i<l.length:=by simpa using h2
 rw[fW,fW,mM,aG,ay hi];rfl
def Fo(K:aE):Sp:=λ vs H Q _=>∃(ra rr cr:Addr)(row:List Int)(rs:List (Int×Int))(c:Int×Int),vs=[.ref ra,.ref rr,.ref cr]/\aP K H ra (row.map V.int)/\g8 K H rr rs/\e9 K H cr [.int c.1,.int c.2]/\0<rs.length/\rs.length<=100/\row.length<=100/\
 ∀H',ae H H' ->Q (.bl (rR row rs c)) H'
theorem Rx(F:bi K "are_groups" lQ f fd)(T:Txt K mg C)(D1:cF P w K mg base "is_within" ["number","bounds"] 1 (rK K))(D2:Jf P w K mg base)(D3:cF P w K mg base "in_groups" [c_,"size"] 1 (lB K)):
  bj P w K mg base CX0 3 f fd [c_,DX,"count_range"] (Fo K):=by
 refine F.ok [c_,DX,"count_range","group"] λ b_ A aA s H vs Q E hr h nd=>?_
 obtain⟨ra,rr,cr,row,rs,c,rfl,hl,hrs,hcr,r0,r1,mW,k⟩:=h;refine⟨_,ab (br (PW.pt (tT (aI Bu (bG Ed (aY aW (by rfl) (T.bu _ zq_dk) eX (aO (pv 0))) (aY aW (by rfl) (T.bu _ zq_dk) eX (aO (pv 1)))) am (aR _))
   (m_ (dw (cx (al D1 (hr.bI zq_dc) rfl (bA (bG lJ (aY aW (by rfl) (T.bu _ zq_dk) eX (aO (pv 0))) (aY aW (by rfl) (T.bu _ zq_dk) eX (aO (pv 1)))) (pv 2)))))))) (af (aw tS)) aK)
  (af (aw (aY (Em rfl) rfl (T.bu _ zq_dk) (show bootBuiltins "all"=some (.builtin "all") by decide+kernel)
   (aO (iL (own:=[("group",3)]) (tt:=jE) (te:=tCall (EY K) [] E0 (cB (bQ 3) (cB (bQ 1) ik))) rfl nd (bF (al D3 (hr.bI zq_dc) rfl (bA (pv 0) (aY aW (by rfl) (T.bu _ zq_dk) eX (aO (pv 1)))))) (bP (by show gW [c_,DX,"count_range","group"] (aJ lQ) _ _=true;decide+kernel)) (λ _ _ _ _ _=>by exact aU (i:=3) nd rfl (aH rfl)) (λ _ _ _ _ _=>by exact di) (λ _ _ _ _ _=>by exact al D2 hr rfl (bA (pv 3) (pv 1)))))))),?_⟩
 try dsimp only [bx,Cx.dJ]
 obtain⟨ys,Jd,Ep⟩:=hrs.fc;refine⟨_,rfl,ra,_,rfl,.inl hl,_,rfl,rr,ys,rfl,.inr Jd,_,_,rfl,rfl,?_,rfl,_,rfl,?_⟩
 .show(0:Int)<(ys.length:Int);omega
 rw[ak,Ep];have em:((row.length:Int) % (rs.length:Int))=((row.length % rs.length:Nat):Int):=by norm_cast
 have ed:((row.length:Int)/(rs.length:Int))=((row.length/rs.length:Nat):Int):=by norm_cast
 by_cases h0:row.length % rs.length=0
 .refine gg (show(!decide (V.int ((row.length:Int) % (rs.length:Int))=V.int 0))=false by rw[em,h0];rfl) ?_;refine⟨_,rfl,ra,_,rfl,.inl hl,_,rfl,rr,ys,rfl,.inr Jd,_,_,rfl,rfl,⟨(by show(0:Int)<(ys.length:Int);omega),(by show(ys.length:Int)<1073741824;omega)⟩,_,rfl,_,cr,c,rfl,hcr,_,rfl,?_⟩;rw[ak,Ep];have hw0:bC ((row.length:Int)/(rs.length:Int)) c=bC ((row.length/rs.length:Nat):Int) c:=by rw[ed]
  have hw:bC ((row.length/rs.length:Nat):Int) c=bJ ((row.length/rs.length:Nat):Int) c.1 c.2:=rfl;have hw1:=hw0.trans hw;show if(!bC ((row.length:Int)/(rs.length:Int)) c)=true then _ else _
  rw[hw1];cases hc:bJ ((row.length/rs.length:Nat):Int) c.1 c.2 with
  |false=>
   refine gk rfl ?_;have:rR row rs c=false:=by unfold rR;rw[hc,KC,BG]
   rw[this]at k;exact k H (ae.refl H)
  |true=>
   refine gg rfl ?_;have hG:rR row rs c=(cc rs.length row).all λ g=>De g rs:=by unfold rR;rw[hc,Uj,bO h0,Uj]
   rw[hG]at k;refine⟨_,rfl,_,rfl,rr,ys,rfl,.inr Jd,ra,row,rs.length,(by rw[Ep];rfl),hl,r0,r1,mW,λ p H1 bs hp s1 hb R1=>⟨p,rfl,⟨_,aP.of R1.aD⟩,λ D hD=>?_⟩⟩;have j3:bs.length<1000000:=by
    rw[hb];unfold cc;rw[ak,ko];exact li (NH _ _) ah
   refine d_ (cu (aP.of R1.aD)) (λ i=>some (V.bl (De ((cc rs.length row).getD i []) rs))) hD (by rw[ak];exact j3) (λ i x H2 H3 Qy Qn hi s2 eG hy hn=>?_) (λ H2 s2 h2=>?_)
   .obtain⟨hx,rfl⟩:=eG;rw[ak]at hi;rw[aT,ay hi]at hx;cases hx;obtain⟨_,dx,ho⟩:=R1.at_ i bs[i] (ay hi);have i9:(cc rs.length row).getD i []∈cc rs.length row:=by
     rw[aG,ay (by rw[<-hb];exact hi)];exact gH _
    refine⟨rfl,_,rfl,_,rfl,bs[i],rr,(cc rs.length row).getD i [],rs,rfl,aP.of (s2 _ _ ho),(hrs.same s1).same s2,zq r0 h0 _ i9,λ H4 s4=>hy _ H4 rfl s4⟩
   .rw[gA,ak,hb,fQ (λ g=>V.bl (De g rs))]at h2;refine⟨D,(cc rs.length row).map λ g=>De g rs,rfl,?_,?_⟩
    .rw[bB];exact aP.of h2
    .rw[ua];exact k H2 (s1.trans s2)
 .refine gk (show(!decide (V.int ((row.length:Int) % (rs.length:Int))=V.int 0))=true by rw[em,gf,gh ah];rfl) ?_;have:rR row rs c=false:=by unfold rR;rw[gh h0,KC]
  rw[this]at k;exact k H (ae.refl H)
theorem eS:∀{fs:List (Str×V)}{f:Str}{v:V},f∉fs.map (·.1) ->eE f v fs=fs++[(f,v)]
 |[],_,_,_=>rfl
 |(n,u)::fs,f,v,h=>by
  have ne:n≠f:=λ e=>h (by rw[<-e];exact fM)
  rw[eE,ao ne,eS (λ m=>h (ff _ m))];rfl
structure iw(K:aE)(B:CB):Prop where
 Kk:sw K B.cO
 nO:∀f∈(["may_run_from","need","due"]:List Str),dD K B.cO f
 AG:sw K B.cK
 nK:∀f∈(["period","need","due"]:List Str),dD K B.cK f
 Dg:sw K B.cP
 nP:∀f∈(["kind","beginning","done","left","longest"]:List Str),dD K B.cP f
 clL:sw K B.cL
 nL:∀f∈([b8]:List Str),dD K B.cL f
 DW:sw K B.cR
 nR:∀f∈(["told","at"]:List Str),dD K B.cR f
theorem jB{H:Hp}{x dx:Addr}{o1 o2 o3:HO}(hx:H x=none)(hd:H dx=none):ae H (aS (aS (aS H dx o1) x o2) x o3):=λ b o e=>by
 have n1:b≠x:=λ z=>by rw[z,hx]at e;cases e
 have n2:b≠dx:=λ z=>by rw[z,hd]at e;cases e
 rw[ag n1,ag n1,ag n2];exact e
theorem iS{H:Hp}{x dx:Addr}{o1 o2:HO}(hx:H x=none)(hd:H dx=none):ae H (aS (aS H dx o1) x o2):=λ b o e=>by
 have n1:b≠x:=λ z=>by rw[z,hx]at e;cases e
 have n2:b≠dx:=λ z=>by rw[z,hd]at e;cases e
 rw[ag n1,ag n2];exact e
theorem at3(a b c:Int)(r:List Int):ml ((a::b::c::r).map V.int) (0:Int)=some (.int a)/\ml ((a::b::c::r).map V.int) (1:Int)=some (.int b)/\ml ((a::b::c::r).map V.int) (2:Int)=some (.int c):=
 ⟨cG (j:=0) rfl,cG (j:=1) rfl,cG (j:=2) rfl⟩
def AH(a b c:Int):List (Str×V):=[("may_run_from",.int a),("need",.int b),("due",.int c)]
def gE(a b c:Int):List (Str×V):=[("period",.int a),("need",.int b),("due",.int c)]
def kz(c:Addr)(fs:Int ->Int ->Int ->List (Str×V)):Sp:=λ vs H Q _=>∃(x g dx:Addr)(a b d:Int)(r:List Int),vs=[.ref x,.ref g]/\H x=some (.bD c dx [])/\H g=some (.aD ((a::b::d::r).map V.int))/\Q .bu (aS H x (.bD c dx (fs a b d)))
theorem NJ(F:v7 K "__init__" "OnceJob.__init__" n_ f fd)(TB:iw K B):bj P w K mg base CX0 1 f fd ["self","told"] (kz B.cO AH):=by
 refine F.ok ["self","told"] λ b_ A aA s H vs Q E hr h nd=>?_
 obtain⟨x,g,dx,a,b,c,r,rfl,hx,hg,k⟩:=h;have ng:g≠x:=me hg hx λ z=>by cases z
 obtain⟨a0,a1,a2⟩:=at3 a b c r;refine⟨_,ab (aN (pv 0) (bK be (pv 1) am (λ _ _=>rfl)) rfl) (ab (aN (pv 0) (bK be (pv 1) am (λ _ _=>rfl)) rfl) (af (aN (pv 0) (bK be (pv 1) am (λ _ _=>rfl)) rfl))),?_⟩
 try dsimp only [bx,Cx.dJ]
 refine⟨_,rfl,g,_,_,_,rfl,rfl,aP.of hg,a0,_,rfl,wF hx TB.Kk (TB.nO _ zq_dk) bR ?_⟩;rw[eS zq_dk];refine⟨_,rfl,g,_,_,_,rfl,rfl,aP.of (by rw[ag ng];exact hg),a1,_,rfl,wF aa TB.Kk (TB.nO _ zq_dk) bR ?_⟩;rw[eS (show("need":Str)∉(["may_run_from"]:List Str) by decide+kernel),bn];refine⟨_,rfl,g,_,_,_,rfl,rfl,aP.of (by rw[ag ng];exact hg),a2,_,rfl,wF aa TB.Kk (TB.nO _ zq_dk) bR ?_⟩;rw[eS (show("due":Str)∉(["may_run_from","need"]:List Str) by decide+kernel),bn];exact k
theorem NK(F:v7 K "__init__" "Kind.__init__" uj f fd)(TB:iw K B):bj P w K mg base CX0 1 f fd ["self","told"] (kz B.cK gE):=by
 refine F.ok ["self","told"] λ b_ A aA s H vs Q E hr h nd=>?_
 obtain⟨x,g,dx,a,b,c,r,rfl,hx,hg,k⟩:=h;have ng:g≠x:=me hg hx λ z=>by cases z
 obtain⟨a0,a1,a2⟩:=at3 a b c r;refine⟨_,ab (aN (pv 0) (bK be (pv 1) am (λ _ _=>rfl)) rfl) (ab (aN (pv 0) (bK be (pv 1) am (λ _ _=>rfl)) rfl) (af (aN (pv 0) (bK be (pv 1) am (λ _ _=>rfl)) rfl))),?_⟩
 try dsimp only [bx,Cx.dJ]
 refine⟨_,rfl,g,_,_,_,rfl,rfl,aP.of hg,a0,_,rfl,wF hx TB.AG (TB.nK _ zq_dk) bR ?_⟩;rw[eS zq_dk];refine⟨_,rfl,g,_,_,_,rfl,rfl,aP.of (by rw[ag ng];exact hg),a1,_,rfl,wF aa TB.AG (TB.nK _ zq_dk) bR ?_⟩;rw[eS (show("need":Str)∉(["period"]:List Str) by decide+kernel),bn];refine⟨_,rfl,g,_,_,_,rfl,rfl,aP.of (by rw[ag ng];exact hg),a2,_,rfl,wF aa TB.AG (TB.nK _ zq_dk) bR ?_⟩;rw[eS (show("due":Str)∉(["period","need"]:List Str) by decide+kernel),bn];exact k
def uB(B:CB)(l:List fv):Nat ->Addr ->HO:=λ j dx=>.bD B.cO dx (AH (l.getD j o0).come (l.getD j o0).need (l.getD j o0).due)
def a0:aV:=⟨1,0,0⟩
def mN(B:CB)(l:List aV):Nat ->Addr ->HO:=λ j dx=>.bD B.cK dx (gE (l.getD j a0).period (l.getD j a0).need (l.getD j a0).due)
def AI(K:aE)(B:CB):Sp:=λ vs H Q _=>∃(ra:Addr)(row:List Int),vs=[.ref ra]/\aP K H ra (row.map V.int)/\rV row=true/\
 ∀p H' bs,H p=none ->ae H H' ->bs.length=(jg row).length ->bU (uB B (jg row)) H' p bs ->Q (.ref p) H'
theorem NL(F:bi K "once_jobs" oh f fd)(T:Txt K mg C)(U:cQ K mg)(D1:cF P w K mg base "in_groups" [c_,"size"] 1 (lB K))(D2:tj P w K mg base "OnceJob" B.cO ["self","told"] 1 (kz B.cO AH)):
  bj P w K mg base CX0 3 f fd [c_] (AI K B):=by
 refine F.ok [c_,"group"] λ b_ A aA s H vs Q E hr h nd=>?_
 obtain⟨ra,row,rfl,hl,ok,k⟩:=h;obtain⟨tr,yf,hR⟩:=U.row ("ONCE_RANGES",[(0,60),(1,20),(0,200)]) zq_dk;refine⟨_,af (aw (iL (own:=[("group",1)]) (tt:=jE) (te:=qI B.cO (kz B.cO AH) [] E0 (cB (bQ 1) ik)) rfl nd (bF (al D1 (hr.bI zq_dc) rfl (bA (pv 0) (aY aW (by rfl) (T.bu _ zq_dk) eX (aO (b9 (v:=.ref tr) rfl yf rfl)))))) (bP (by show gW [c_,"group"] (aJ oh) _ _=true;decide+kernel)) (λ _ _ _ _ _=>by exact aU (i:=1) nd rfl (aH rfl)) (λ _ _ _ _ _=>by exact di) (λ _ _ _ _ _=>by exact g_ D2 hr rfl (aO (pv 1))))),?_⟩
 try dsimp only [bx,Cx.dJ]
 obtain⟨ys,Jd,Ep⟩:=(hR H).fc;obtain⟨l3,l36,yt⟩:=zn ok;refine⟨_,rfl,tr,ys,rfl,.inr Jd,ra,row,3,(by rw[Ep];rfl),hl,zq_dc,zq_dc,ah,λ p H1 bs hp s1 hb R1=>⟨p,rfl,⟨_,aP.of R1.aD⟩,λ D hD=>?_⟩⟩;rw[yt,ak]at hb;have h12:=(o4 ok).1;refine rO (cu (aP.of R1.aD)) (uB B (jg row)) hD (by rw[ak];omega) (λ i x H2 H3 Qy Qn hi s2 eG hy=>?_) (λ H2 bs2 s2 Qx R2 _=>k D H2 bs2 (ae.bN s1 hD) (s1.trans s2) (by rw[Qx,ak,hb]) R2);obtain⟨hx,rfl⟩:=eG;rw[ak]at hi;rw[aT,ay hi]at hx;cases hx;obtain⟨_,dx,ho⟩:=R1.at_ i bs[i] (ay hi);have hio:i<(jg row).length:=by rw[<-hb];exact hi
 have hg:(cc 3 row).getD i []=[((jg row).getD i o0).come,((jg row).getD i o0).need,((jg row).getD i o0).due].map (λ n:Nat=>(n:Int)):=by
  rw[yt,aG,aT,aG,ay hio];rfl
 have Pp:=s2 _ _ ho;unfold Fn at Pp;rw[hg]at Pp;refine⟨rfl,_,rfl,λ x Uk hx xl jD=>⟨x,bs[i],Uk,_,_,_,[],rfl,aa,iS hx xl _ _ Pp,rfl,?_⟩⟩;refine hy x _ hx (jB hx xl) ⟨Uk,?_⟩;rw[aa];rfl
def vC(K:aE)(B:CB):Sp:=λ vs H Q _=>∃(ra:Addr)(row:List Int),vs=[.ref ra]/\aP K H ra (row.map V.int)/\rW row=true/\
 ∀p H' bs,H p=none ->ae H H' ->bs.length=(e8 row).length ->bU (mN B (e8 row)) H' p bs ->Q (.ref p) H'
theorem NM(F:bi K "kinds_of" ql f fd)(T:Txt K mg C)(U:cQ K mg)(D1:cF P w K mg base "in_groups" [c_,"size"] 1 (lB K))(D2:tj P w K mg base "Kind" B.cK ["self","told"] 1 (kz B.cK gE)):
  bj P w K mg base CX0 3 f fd [c_] (vC K B):=by
 refine F.ok [c_,"group"] λ b_ A aA s H vs Q E hr h nd=>?_
 obtain⟨ra,row,rfl,hl,ok,k⟩:=h;obtain⟨tr,yf,hR⟩:=U.row ("KIND_RANGES",[(1,12),(1,12),(1,12)]) zq_dk;refine⟨_,af (aw (iL (own:=[("group",1)]) (tt:=jE) (te:=qI B.cK (kz B.cK gE) [] E0 (cB (bQ 1) ik)) rfl nd (bF (al D1 (hr.bI zq_dc) rfl (bA (pv 0) (aY aW (by rfl) (T.bu _ zq_dk) eX (aO (b9 (v:=.ref tr) rfl yf rfl)))))) (bP (by show gW [c_,"group"] (aJ ql) _ _=true;decide+kernel)) (λ _ _ _ _ _=>by exact aU (i:=1) nd rfl (aH rfl)) (λ _ _ _ _ _=>by exact di) (λ _ _ _ _ _=>by exact g_ D2 hr rfl (aO (pv 1))))),?_⟩
 try dsimp only [bx,Cx.dJ]
 obtain⟨ys,Jd,Ep⟩:=(hR H).fc;obtain⟨l3,l36,yt⟩:=xj ok;refine⟨_,rfl,tr,ys,rfl,.inr Jd,ra,row,3,(by rw[Ep];rfl),hl,zq_dc,zq_dc,ah,λ p H1 bs hp s1 hb R1=>⟨p,rfl,⟨_,aP.of R1.aD⟩,λ D hD=>?_⟩⟩;rw[yt,ak]at hb;have h6:=(l5 ok).1;refine rO (cu (aP.of R1.aD)) (mN B (e8 row)) hD (by rw[ak];omega) (λ i x H2 H3 Qy Qn hi s2 eG hy=>?_) (λ H2 bs2 s2 Qx R2 _=>k D H2 bs2 (ae.bN s1 hD) (s1.trans s2) (by rw[Qx,ak,hb]) R2);obtain⟨hx,rfl⟩:=eG;rw[ak]at hi;rw[aT,ay hi]at hx;cases hx;obtain⟨_,dx,ho⟩:=R1.at_ i bs[i] (ay hi);have hio:i<(e8 row).length:=by rw[<-hb];exact hi
 have hg:(cc 3 row).getD i []=[((e8 row).getD i a0).period,((e8 row).getD i a0).need,((e8 row).getD i a0).due].map (λ n:Nat=>(n:Int)):=by
  rw[yt,aG,aT,aG,ay hio];rfl
 have Pp:=s2 _ _ ho;unfold Fn at Pp;rw[hg]at Pp;refine⟨rfl,_,rfl,λ x Uk hx xl jD=>⟨x,bs[i],Uk,_,_,_,[],rfl,aa,iS hx xl _ _ Pp,rfl,?_⟩⟩;refine hy x _ hx (jB hx xl) ⟨Uk,?_⟩;rw[aa];rfl
def Fp(K:aE)(b:List Int ->Bool):Sp:=λ vs H Q _=>∃(ra:Addr)(row:List Int),vs=[.ref ra]/\aP K H ra (row.map V.int)/\row.length<=100/\∀H',ae H H' ->Q (.bl (b row)) H'
theorem Ry(F:bi K "are_once_jobs" mH f fd)(U:cQ K mg)(D1:cF P w K mg base "are_groups" [c_,DX,"count_range"] 3 (Fo K)):bj P w K mg base CX0 4 f fd [c_] (Fp K rV):=by
 refine F.ok [c_] λ b_ A aA s H vs Q E hr h nd=>?_
 obtain⟨ra,row,rfl,hl,ic,k⟩:=h;obtain⟨tr,yf,hR⟩:=U.row ("ONCE_RANGES",[(0,60),(1,20),(0,200)]) zq_dk;obtain⟨tc,htc,hC⟩:=U.pair ("ONCE_COUNT_RANGE",(0,12)) zq_dk;refine⟨_,af (aw (al D1 hr rfl (jG (pv 0) (b9 (v:=.ref tr) rfl yf rfl) (b9 (v:=.ref tc) rfl htc rfl)))),?_⟩
 try dsimp only [bx,Cx.dJ]
 refine⟨_,rfl,ra,tr,tc,row,_,(0,12),rfl,hl,hR H,hC H,zq_dc,zq_dc,ic,λ H1 s1=>?_⟩;rw[Rv];exact k H1 s1
def xm(K:aE):Sp:=λ vs H Q _=>∃(ra rr:Addr)(row:List Int)(rs:List (Int×Int)),vs=[.ref ra,.ref rr]/\aP K H ra (row.map V.int)/\g8 K H rr rs/\3<=rs.length/\rs.length<=100/\row.length<=100/\∀H',ae H H' ->Q (.bl (AE row rs)) H'
theorem Rz(F:bi K "are_kinds" og f fd)(T:Txt K mg C)(U:cQ K mg)(D1:cF P w K mg base "are_groups" [c_,DX,"count_range"] 3 (Fo K))(D3:cF P w K mg base "in_groups" [c_,"size"] 1 (lB K)):
  bj P w K mg base CX0 4 f fd [c_,DX] (xm K):=by
 refine F.ok [c_,DX,"group"] λ b_ A aA s H vs Q E hr h nd=>?_
 obtain⟨ra,rr,row,rs,rfl,hl,hrs,r3,r1,ic,k⟩:=h;obtain⟨tc,htc,hC⟩:=U.pair ("KIND_COUNT_RANGE",(1,6)) zq_dk;refine⟨_,ab (br (dw (cx (al D1 hr rfl (jG (pv 0) (pv 1) (b9 (v:=.ref tc) rfl htc rfl))))) (af (aw tS)) aK)
  (af (aw (aY (Em rfl) rfl (T.bu _ zq_dk) (show bootBuiltins "all"=some (.builtin "all") by decide+kernel)
   (aO (iL (own:=[("group",2)]) (tt:=jE) (te:=tU (zL λ i j=>.bl (decide (i<=j))) (tU (zQ K) (bQ 2) (tC (.int 2))) (tU (zQ K) (bQ 2) (tC (.int 0)))) rfl nd (bF (al D3 (hr.bI zq_dc) rfl (bA (pv 0) (aY aW (by rfl) (T.bu _ zq_dk) eX (aO (pv 1)))))) (bP (by show gW [c_,DX,"group"] (aJ og) _ _=true;decide+kernel)) (λ _ _ _ _ _=>by exact aU (i:=2) nd rfl (aH rfl)) (λ _ _ _ _ _=>by exact di) (λ _ _ _ _ _=>by exact oU qH (bK be (pv 2) am (λ _ _=>rfl)) (bK be (pv 2) am (λ _ _=>rfl)) (aR _))))))),?_⟩
 try dsimp only [bx,Cx.dJ]
 refine⟨_,rfl,_,rfl,ra,rr,tc,row,rs,(1,6),rfl,hl,hrs,hC H,ah,r1,ic,λ H1 s1=>⟨_,rfl,?_⟩⟩;cases hg:rR row rs (1,6)with
 |false=>
  refine gk rfl ?_;have:AE row rs=false:=by unfold AE;rw[hg,KC]
  rw[this]at k;exact k H1 s1
 |true=>
  refine gg rfl ?_;have hK:AE row rs=(cc rs.length row).all Fj:=by unfold AE;rw[hg,Uj]
  rw[hK]at k;have h0:row.length % rs.length=0:=by
   unfold rR at hg;rw[bq,bc]at hg;exact hg.1
  obtain⟨ys,Jd,Ep⟩:=(hrs.same s1).fc;refine⟨_,rfl,_,rfl,rr,ys,rfl,.inr Jd,ra,row,rs.length,(by rw[Ep];rfl),ae.seq s1 hl,ah,r1,ic,λ p H2 bs hp s2 hb R1=>⟨p,rfl,⟨_,aP.of R1.aD⟩,λ D hD=>?_⟩⟩;have j3:bs.length<1000000:=by
   rw[hb];unfold cc;rw[ak,ko];exact li (NH _ _) ah
  refine d_ (cu (aP.of R1.aD)) (λ i=>some (V.bl (Fj ((cc rs.length row).getD i [])))) hD (by rw[ak];exact j3) (λ i x H3 H4 Qy Qn hi s3 eG hy hn=>?_) (λ H3 s3 h3=>?_)
  .obtain⟨hx,rfl⟩:=eG;rw[ak]at hi;rw[aT,ay hi]at hx;cases hx;obtain⟨_,dx,ho⟩:=R1.at_ i bs[i] (ay hi);have i9:(cc rs.length row).getD i []∈cc rs.length row:=by
    rw[aG,ay (by rw[<-hb];exact hi)];exact gH _
   have hgl:=zq ah h0 _ i9;have ho3:aP K _ bs[i] (((cc rs.length row).getD i []).map V.int):=aP.of (s3 _ _ ho);refine⟨rfl,_,rfl,bs[i],_,_,_,rfl,rfl,ho3,cA (k:=2) ah,_,rfl,bs[i],_,_,_,rfl,rfl,ho3,cA (k:=0) ah,_,_,rfl,rfl,hy _ _ rfl (ae.refl _)⟩
  .rw[gA,ak,hb,fQ (λ g=>V.bl (Fj g))]at h3;refine⟨D,(cc rs.length row).map Fj,rfl,?_,?_⟩
   .rw[bB];exact aP.of h3
   .rw[ua];exact k H3 (s1.trans (s2.trans s3))
theorem _root_.L2.bU.jb{O:Nat ->Addr ->HO}{H H':Hp}{D Pt:Addr}{bs:List Addr}{ps:Array aq}(R:bU O H D bs)(hP:H Pt=some (.tP ps))(s:cX Pt H H')(hO:∀j dx,O j dx≠.tP ps):bU O H' D bs:=by
 refine⟨s _ _ R.aD λ z=>?_,R.nd,λ j b e=>?_⟩
 .have:=R.aD;rw[z,hP]at this;cases this
 .obtain⟨n,dx,h⟩:=R.at_ j b e;refine⟨n,dx,s _ _ h λ z=>?_⟩;rw[z,hP]at h;exact hO j dx (cT h).symm
def eT(l:List fv)(k:Nat):List Int:=[(Fe l k:Int),(k:Int)]
theorem RA(l:List fv){k i:Nat}(h:i<k):HT.lexLt (eT l k) (eT l i)=decide (Fe l k<Fe l i):=by
 unfold eT;rw[Ai,kH];simp only[bc,lc,bq];omega
theorem xn(l:List fv):∀(r:List Nat)(b:Nat),(b::r).Pairwise (·<·) ->∃i,r.foldl (je l) (some b)=some i/\pick HT.lexLt (eT l b,V.int (b:Int)) (r.map λ k:Nat=>(eT l k,V.int (k:Int)))=(eT l i,V.int (i:Int))
 |[],b,_=>⟨b,rfl,rfl⟩
 |x::r,b,h=>by
  obtain⟨h1,h2⟩:=pL.mp h;have hbx:b<x:=h1 x fM;show∃i,r.foldl (je l) (je l (some b) x)=some i/\(if HT.lexLt (eT l x) (eT l b)=true then pick HT.lexLt (eT l x,V.int (x:Int)) (r.map λ k:Nat=>(eT l k,V.int (k:Int)))else pick HT.lexLt (eT l b,V.int (b:Int)) (r.map λ k:Nat=>(eT l k,V.int (k:Int))))=_;rw[RA l hbx];unfold je;dsimp only;by_cases hd:Fe l x<Fe l b
  .rw[au hd,au (bO hd)];exact xn l r x h2
  .rw[ao hd,ao (by simpa using hd)];exact xn l r b (pL.mpr ⟨λ y hy=>h1 y (ff _ hy),(pL.mp h2).2⟩)
def uC(l:List fv)(left:List Nat)(t:Nat):List Nat:=(bf l.length).filter λ k=>decide (0<left.getD k 0)&&decide ((l.getD k o0).come<=t)
theorem NN(l:List fv)(f:fX)(t:Nat):uC l (f.map (·.1)) t=lA l f t:=by
 unfold uC lA;congr 1
 funext k
 rw[aG,aT,aG (l:=f)];cases f[k]?<;>rfl
def aa5:Option Nat ->V
 |none=>.bu
 |some k=>.int (k:Int)
theorem Jz(p:Nat ->Bool)(n:Nat):(bf n).filterMap (λ i=>if p i=true then some (V.int (i:Int))else none)=((bf n).filter p).map λ k:Nat=>V.int (k:Int):=by
 induction n with
 |zero=>rfl
 |succ n ih=>
  rw[oz,ih,uA,ND,dZ];congr 1;cases h:p n<;>simp[h]
def Dh:Str:="first_due"++".<locals>."++"<lambda>"
def Ul(B:CB)(Pt:Addr):Sp:=λ vs H Q _=>∃(ja la:Addr)(l:List fv)(bs:List Addr)(left:List Nat)(t:Nat),vs=[.ref ja,.ref la,.int t]/\bU (uB B l) H ja bs/\bs.length=l.length/\H la=some (.aD (left.map λ n:Nat=>V.int (n:Int)))/\left.length=l.length/\l.length<=100/\qj H Pt Dh/\
 ∀H',cX Pt H H' ->qj H' Pt Dh ->Q (aa5 ((uC l left t).foldl (je l) none)) H'
theorem Wm{f Pt:Addr}{fd:bp}{b_:aq}(F:Cp K "first_due" "first_due" oa f fd b_)(T:Txt K mg C)(TB:iw K B)(hh:BV K mg base b_ Pt):bj P w K mg base CX0 5 f fd [uO,"left","now"] (Ul B Pt):=by
 refine F.ok [uO,"left","now","waiting","k",dL] λ A aA s H vs Q E hr h nd=>?_
 obtain⟨ja,la,l,bs,left,t,rfl,R,j3,Aq,Qz,ic,Tb,k⟩:=h;refine⟨_,ab (gq (i:=3) (own:=[("k",4),("job",5)]) (g:=PD K 2 (vM (nj 4) (vM (nj 5) PB))) (tt:=U0 (pE (tU (zL λ i j=>.bl (decide (j<i))) (tU (zQ K) (bQ 1) (bQ 4)) (tC (.int 0)))) (pE (tU (zL λ i j=>.bl (decide (i<=j))) (gN K (bQ 5) "may_run_from") (bQ 2)))) (te:=bQ 4) rfl nd rfl rfl (iA rfl rfl rfl zq_dk) (zZ rfl (T.bu _ zq_dk) (aO (pv 0))) (bP (by show gW [uO,"left","now","waiting","k",dL] (aJ oa) _ _=true;decide+kernel))
   (λ _ _ _ _ _=>by exact sC rfl (eU (aU (i:=4) nd rfl (aH rfl)) (eU (aU (i:=5) nd rfl (aH rfl)) oS)))
   (λ _ _ _ _ _=>by exact lL (PW.pt (qd (aI kZ (bK be (pv 1) (pv 4) (λ _ _=>rfl)) am (aR _)) (lI (aI qH (ai (pv 5) rfl) (pv 2) (aR _))))))
   (λ _ _ _ _ _=>by exact pv 4))
  (af (aw (B3 (Lv _) (P:=Pt) (p:="k") (fr:=[uO]) (ix:=[0]) (d:=.bu) (n:=2) (tb:=Vh (cB (gN K (tU (zQ K) (bQ 1) (bQ 0)) "due") (cB (bQ 0) ik))) rfl hr rfl (T.bu _ zq_dk) hh
   (wC rfl rfl rfl zq_dk rfl rfl rfl (aH rfl) (λ c hc=>(gK rfl).trans ((oj hc).trans rfl)) rfl (λ _ _ _ _ _ _=>rfl)) (pv 3) fC
   (λ f' cd cz s' H'=>by exact fE (bA (ai (bK be (pv 1) (pv 0) (λ _ _=>rfl)) rfl) (pv 0)))))),?_⟩
 try dsimp only [bx,Cx.dJ]
 obtain⟨ps,hP⟩:=Tb.is;have cond:∀i,i<l.length ->left.getD i 0=left.getD i 0:=λ _ _=>rfl
 refine⟨_,rfl,ja,_,rfl,aP.of R.aD,λ D hD=>?_⟩;refine d_ (Jo (aP.of R.aD)) (λ i=>if(decide (0<left.getD i 0)&&decide ((l.getD i o0).come<=t))=true then some (V.int (i:Int))else none) hD (by rw[ak];omega) (λ i x H1 H2 Qy Qn hi s1 eG hy hn=>?_) (λ H1 s1 h1=>?_)
 .obtain⟨Tp,y,hx,rfl,hT,rfl⟩:=eG;rw[ak]at hi;rw[aT,ay hi]at hx;cases hx;have s2:=ae.new (o:=.fc [.int (i:Nat),V.ref bs[i]]) hT;have mZ:=s1.trans s2;obtain⟨_,dx,ho⟩:=R.at_ i bs[i] (ay hi);have jY:ml (left.map λ n:Nat=>V.int (n:Int)) ((i:Nat):Int)=some (.int (left.getD i 0:Nat)):=by
   refine cG ?_;rw[aT,aG,ay ah];rfl
  refine⟨Tp,_,rfl,e9.of aa,rfl,_,_,rfl,_,_,rfl,rfl,rfl,?_⟩;refine⟨_,rfl,_,rfl,la,_,_,_,rfl,rfl,aP.of (mZ _ _ Aq),jY,_,_,rfl,rfl,_,rfl,?_⟩;by_cases c1:0<left.getD i 0
  .refine gk (bO (show(0:Int)<((left.getD i 0:Nat):Int) by omega)) ?_;refine⟨_,rfl,rF (mZ _ _ ho) TB.Kk (TB.nO _ zq_dk) rfl ⟨_,rfl,_,_,rfl,rfl,_,rfl,?_⟩⟩;by_cases c2:(l.getD i o0).come<=t
   .refine gk (bO (show(((l.getD i o0).come:Nat):Int)<=(t:Int) by omega)) ?_;exact⟨_,rfl,hy _ _ (by rw[bO c1,bO c2];rfl) s2⟩
   .refine gg (gh (show¬(((l.getD i o0).come:Nat):Int)<=(t:Int) by omega)) ?_;exact hn _ (by rw[gh c2,BG];rfl) s2
  .refine gg (gh (show¬(0:Int)<((left.getD i 0:Nat):Int) by omega)) ?_;refine gg rfl ?_;exact hn _ (by rw[gh c1,KC];rfl) s2
 .rw[ak,j3,Jz]at h1;have hw:((bf l.length).filter λ k=>decide (0<left.getD k 0)&&decide ((l.getD k o0).come<=t))=uC l left t:=rfl;rw[hw]at h1;have dC:∀n∈uC l left t,n<l.length:=λ n hn=>gB.mp (ii.mp hn).1
  have hpw:(uC l left t).Pairwise (·<·):=adT _ aaU;obtain⟨W,hW⟩:=bS (uC l left t);rw[<-hW]at h1 dC hpw k;have Ze:=s1 _ _ hP;refine⟨_,rfl,D,W.map λ k:Nat=>V.int (k:Int),W.map (eT l),rfl,aP.of h1,(by rw[ak,ak]),Tb.ph s1,λ i y ns H2 hy hn sp _=>?_,λ H2 v sp VP hv=>?_⟩
  .obtain⟨n,Xd,rfl,rfl⟩:∃n,W[i]?=some n/\V.int ((n:Nat):Int)=y/\eT l n=ns:=by
    rw[aT]at hy hn;cases e:W[i]?with
    |none=>rw[e]at hy;cases hy
    |some q=>rw[e]at hy hn;exact⟨q,rfl,cT hy,cT hn⟩
   have qE:=dC n (cH Xd);have R2:=(R.same s1).jb Ze sp (λ j dx z=>by cases z);obtain⟨_,dx,ho⟩:=R2.at_ n (bs[n]'ah) (ay _)
   refine⟨_,rfl,_,rfl,ja,_,_,_,rfl,rfl,aP.of R2.aD,cG (j:=n) (by rw[aT,ay ah];rfl),_,B.cO,dx,_,_,rfl,ho,TB.Kk,TB.nO _ zq_dk,rfl,_,rfl,(by show 2<=sizeLine;decide),λ t ht=>⟨⟨t,rfl,e9.of aa⟩,ae.new ht⟩⟩
  .have Pl:v=aa5 (W.foldl (je l) none):=by
    cases hWe:W with
    |nil=>rw[hWe]at hv;exact hv
    |cons b r=>
     rw[hWe]at hv hpw;obtain⟨i,e1,e2⟩:=xn l r b hpw;have hz:((b::r).map (eT l)).zip ((b::r).map λ k:Nat=>V.int (k:Int))=(eT l b,V.int (b:Int))::r.map λ k:Nat=>(eT l k,V.int (k:Int)):=by
      rw[Mr];rfl
     rw[hz]at hv;have hv2:v=(pick HT.lexLt (eT l b,V.int (b:Int)) (r.map λ k:Nat=>(eT l k,V.int (k:Int)))).2:=hv;rw[e2]at hv2;rw[hv2,qO,show je l none b=some b from rfl,e1];rfl
   rw[Pl];exact k H2 (λ b o e n=>sp b o (s1 b o e) n) VP
abbrev nI(n:Nat):V:=V.int (n:Int)
theorem _root_.L2.qj.fU{H:Hp}{P la:Addr}{q:Str}{o:HO}{xs:List V}(h:qj H P q)(e:H la=some (.aD xs)):qj (aS H la o) P q:=by
 obtain⟨tr,a,b⟩:=h;refine⟨tr,?_,λ t ht=>?_⟩
 .rw[ag (λ z=>by rw[z,e]at a;cases a)];exact a
 .have hb:=b t ht;rw[ag (λ z=>by rw[z,e]at hb;cases hb)];exact hb
theorem HC(l:List Nat):((l.map λ n:Nat=>(n:Int)).any λ n=>decide (n≠0))=true↔¬∀x∈l,x=0:=by
 rw[List.any_map,Hw];constructor
 .rintro ⟨x,hx,e⟩ h
  have:=h x hx;subst this;simp at e
 .intro h;refine p6 λ z=>h λ x hx=>p6 λ y=>z ⟨x,hx,?_⟩
  show decide ((x:Int)≠0)=true;rw[bc];omega
theorem Wn(l:List Nat):l.map nI=(l.map λ n:Nat=>(n:Int)).map V.int:=by rw[bB];rfl
def HE(B:CB)(Pt:Addr):Sp:=λ vs H Q _=>∃(ja:Addr)(l:List fv)(bs:List Addr),vs=[.ref ja]/\bU (uB B l) H ja bs/\bs.length=l.length/\l.length<=100/\(∀x∈l,0<x.need)/\qj H Pt Dh/\
 ∀p H',H p=none ->cX Pt H H' ->qj H' Pt Dh ->H' p=some (.aD ((oE l).map nI)) ->Q (.ref p) H'
structure NO(B:CB)(Pt:Addr)(H:Hp)(ja la da:Addr)(l:List fv)(bs:List Addr)(m:Nat)(σ:L2.St)(H':Hp):Prop where
 ex:∃(t:Nat)(left done:List Nat)(f:fX)(x y:Option V),ju l t left done f m/\σ=[some (.ref ja),some (.ref la),x,some (.ref da),some (nI t),y]/\H' la=some (.aD (left.map nI))/\H' da=some (.aD (done.map nI))
 same:cX Pt H H'
 tab:qj H' Pt Dh
theorem NP{f Pt:Addr}{fd:bp}(F:bi K "done_times" jo f fd)(T:Txt K mg C)(TB:iw K B)(D1:cF P w K mg base "first_due" [uO,"left","now"] 5 (Ul B Pt)):bj P w K mg base CX0 6 f fd [uO] (HE B Pt):=by
 refine F.ok [uO,"left",dL,"done","now","chosen"] λ b_ A aA s H vs Q E hr h nd=>?_
 obtain⟨ja,l,bs,rfl,R,j3,ic,RB,Tb,k⟩:=h;refine⟨_,ab (gq (i:=1) (own:=[("job",2)]) (tt:=jE) (te:=gN K (bQ 2) "need") rfl nd rfl rfl (iA rfl rfl rfl zq_dk) (bF (pv 0)) (bP (by show gW [uO,"left",dL,"done","now","chosen"] (aJ jo) _ _=true;decide+kernel)) (λ _ _ _ _ _=>by exact aU (i:=2) nd rfl (aH rfl)) (λ _ _ _ _ _=>by exact di) (λ _ _ _ _ _=>by exact ai (pv 2) rfl))
  (ab (gq (i:=3) (own:=[("job",2)]) (tt:=jE) (te:=tC (.int 0)) rfl nd rfl rfl (iA rfl rfl rfl zq_dk) (bF (pv 0)) (bP (by show gW [uO,"left",dL,"done","now","chosen"] (aJ jo) _ _=true;decide+kernel)) (λ _ _ _ _ _=>by exact aU (i:=2) nd rfl (aH rfl)) (λ _ _ _ _ _=>by exact di) (λ _ _ _ _ _=>by exact am))
  (ab (bg (i:=4) nd rfl (aH rfl) am)
  (ab (nu eY (cx (aY (Rs rfl) rfl (T.bu _ zq_dk) (show bootBuiltins "any"=some (.builtin "any") by decide+kernel) (aO (pv 1))))
   (ab (bg (i:=5) nd rfl (aH rfl) (al D1 hr rfl (jG (pv 0) (pv 1) (pv 4))))
   (ab (D_ (i:=4) nd rfl (aH rfl) am vN)
   (af (br (aI PU (pv 5) fC (aR _)) (ab (zI (pv 1) (pv 5) wq am Va qM) (af (U_ (pv 4) (U8 (pv 3) (pv 5) qM)))) aK)))))
  (af (aw (pv 3)))))),?_⟩
 try dsimp only [bx,Cx.dJ]
 obtain⟨ps,hP⟩:=Tb.is;have bH:bs.length<1000000:=by omega
 refine⟨_,rfl,ja,rfl,⟨_,aP.of R.aD⟩,λ la Aq=>?_⟩;refine d_ (cu (aP.of R.aD)) (λ i=>some (nI (l.getD i o0).need)) Aq (by rw[ak];exact bH) (λ i x H1 H2 Qy Qn hi s1 eG hy hn=>?_) (λ H1 s1 h1=>?_)
 .obtain⟨hx,rfl⟩:=eG;rw[ak]at hi;rw[aT,ay hi]at hx;cases hx;obtain⟨_,dx,ho⟩:=R.at_ i bs[i] (ay hi);exact⟨rfl,_,rfl,rF (s1 _ _ ho) TB.Kk (TB.nO _ zq_dk) rfl (hy _ _ rfl (ae.refl _))⟩
 rw[gA,ak,j3,fQ (λ x:fv=>nI x.need)]at h1;have R1:=R.same s1;refine⟨_,rfl,ja,rfl,⟨_,aP.of R1.aD⟩,λ da JA=>?_⟩;refine d_ (cu (aP.of R1.aD)) (λ i=>some (nI 0)) JA (by rw[ak];exact bH) (λ i x H2 H3 Qy Qn hi s2 eG hy hn=>?_) (λ H2 s2 h2=>?_)
 .obtain⟨hx,rfl⟩:=eG;exact⟨rfl,hy _ _ rfl (ae.refl _)⟩
 rw[gA,ak,j3]at h2;have mY:H2 da=some (.aD ((l.map λ _=>0).map nI)):=by
  rw[h2,bB,<-fQ (nI∘λ _=>0) l o0];rfl
 have JB:H2 la=some (.aD ((l.map (·.need)).map nI)):=by rw[s2 _ _ h1,bB];rfl
 have nld:la≠da:=λ z=>by rw[z,JA]at h1;cases h1
 have mZ:=s1.trans s2;refine⟨λ m σ H'=>NO B Pt H ja la da l bs m σ H',⟨Vbtkad.horizon l,⟨0,_,_,_,_,_,ju.init RB,rfl,JB,mY⟩,λ b o e _=>mZ b o e,Tb.ph mZ⟩,λ m σ H3 St=>?_⟩;obtain⟨⟨t,left,done,fl,x,y,I,rfl,JC,hd3⟩,RC,Wo⟩:=St;obtain⟨ps3,hP3⟩:=Wo.is;have R3:bU (uB B l) H3 ja bs:=R.jb hP RC (λ j dx z=>by cases z);have Qz:left.length=l.length:=by rw[I.left,ak,I.len]
 refine⟨_,rfl,la,left.map λ n:Nat=>(n:Int),rfl,(by rw[<-Wn];exact aP.of JC),_,rfl,?_⟩;cases Wp:(left.map λ n:Nat=>(n:Int)).any λ n=>decide (n≠0)with
 |false=>
  refine gg rfl ?_;have h0:∀x∈left,x=0:=by
   refine p6 λ z=>?_
   rw[(HC left).mpr z]at Wp;cases Wp
  have:=I.stop h0;rw[this]at hd3;exact⟨_,rfl,k da H3 (ae.bN s1 JA) RC Wo hd3⟩
 |true=>
  refine gk rfl ?_;have hn0:=(HC left).mp Wp;refine⟨λ σ' H'=>∃m',m'<m/\NO B Pt H ja la da l bs m' σ' H',λ _ _ h=>h,?_⟩;obtain⟨m',Z8,I'⟩:=I.step hn0;have aa6:(uC l left t).foldl (je l) none=aa7 l fl t:=by rw[I.left,NN,<-oA I.len]
  refine⟨_,rfl,_,rfl,_,rfl,ja,la,l,bs,left,t,rfl,R3,j3,JC,Qz,ic,Wo,λ H4 TQ Tb4=>?_⟩;rw[aa6];have nlP:la≠Pt:=λ z=>by rw[z,hP3]at JC;cases JC
  have ndP:da≠Pt:=λ z=>by rw[z,hP3]at hd3;cases hd3
  have Wq:=TQ _ _ JC nlP;have hd4:=TQ _ _ hd3 ndP;refine⟨_,rfl,_,_,rfl,rfl,_,rfl,rfl,_,rfl,?_⟩;cases hc:aa7 l fl t with
  |none=>
   refine gg rfl ?_;rw[hc]at I';exact⟨m',Z8,⟨t+1,left,done,_,_,_,I',rfl,Wq,hd4⟩,RC.trans TQ,Tb4⟩
  |some i=>
   refine gk rfl ?_;rw[hc]at I';obtain⟨hi,hgt,_⟩:=rQ (oY I.len hc);have jF:i<left.length:=by rw[Qz];exact hi
   have hid:i<done.length:=by rw[I.dl];exact hi
   have hge:0<left.getD i 0:=by
    rw[I.left,aG,aT];rw[aG]at hgt;cases e:fl[i]?with
    |none=>rw[e]at hgt;exact absurd hgt zq_dc
    |some z=>rw[e]at hgt;exact hgt
   have jY:ml (left.map nI) ((i:Nat):Int)=some (nI (left.getD i 0)):=by
    refine cG ?_;rw[aT,aG,ay jF];rfl
   have hix:∀{xs:List Nat},i<xs.length ->DO (xs.map nI).length ((i:Nat):Int)=some i:=λ{xs} h=>by
    unfold DO;rw[ak,au ah];simp[h]
   refine⟨_,rfl,_,rfl,la,_,_,_,rfl,rfl,aP.of Wq,jY,_,_,rfl,rfl,la,_,_,i,rfl,rfl,Wq,hix jF,?_⟩;refine⟨_,rfl,_,rfl,_,rfl,da,_,_,i,rfl,rfl,(by rw[ag nld.symm];exact hd4),hix hid,?_⟩;refine⟨m',Z8,⟨t+1,left.set i (left.getD i 0 -1),done.set i (t+1),_,_,_,I',rfl,?_,?_⟩,λ b o e n=>?_,(Tb4.fU Wq).fU (by rw[ag nld.symm];exact hd4)⟩
   .rw[ag nld,aa,G9];show some (HO.aD ((left.map nI).set i (V.int (((left.getD i 0:Nat):Int) -1))))=some (.aD ((left.map nI).set i (V.int (((left.getD i 0 -1:Nat):Nat):Int))));rw[show(((left.getD i 0:Nat):Int) -1)=((left.getD i 0 -1:Nat):Int) by omega]
   .rw[aa,G9];rfl
   .rw[ag (λ z=>by rw[z,ae.bN s1 JA]at e;cases e),ag (λ z=>by rw[z,Aq]at e;cases e)];exact TQ _ _ (RC _ _ e n) n
def NQ(l:List fv)(done:List Nat):Int:=(xo ((l.zip done).map λ e=>(e.2:Int) -(e.1.due:Int))).getD 0
theorem RD(ns:List Int):Fd ns 0=(xo ns).getD 0:=by cases ns<;>rfl
def NR(B:CB):Sp:=λ vs H Q _=>∃(ja da:Addr)(l:List fv)(bs:List Addr)(done:List Nat),vs=[.ref ja,.ref da]/\bU (uB B l) H ja bs/\bs.length=l.length/\H da=some (.aD (done.map nI))/\done.length=l.length/\l.length<=100/\∀H',ae H H' ->Q (.int (NQ l done)) H'
theorem RE(F:bi K "greatest_lateness" gc f fd)(T:Txt K mg C)(TB:iw K B):bj P w K mg base CX0 1 f fd [uO,"done"] (NR B):=by
 refine F.ok [uO,"done",dL,"ended"] λ b_ A aA s H vs Q E hr h nd=>?_
 obtain⟨ja,da,l,bs,done,rfl,R,j3,JA,Xq,ic,k⟩:=h;refine⟨_,af (aw (Hx rfl rfl (T.bu _ zq_dk) (iL (own:=[("job",2),("ended",3)]) (g:=PD K 2 (vM (nj 2) (vM (nj 3) PB))) (tt:=jE) (te:=tU (zL λ i j=>.int (i -j)) (bQ 3) (gN K (bQ 2) "due")) rfl nd (Hv rfl (T.bu _ zq_dk) (bA (pv 0) (pv 1))) (bP (by show gW [uO,"done",dL,"ended"] (aJ gc) _ _=true;decide+kernel))
  (λ _ _ _ _ _=>by exact sC rfl (eU (aU (i:=2) nd rfl (aH rfl)) (eU (aU (i:=3) nd rfl (aH rfl)) oS))) (λ _ _ _ _ _=>by exact di) (λ _ _ _ _ _=>by exact bG gU (pv 3) (ai (pv 2) rfl))))),?_⟩
 try dsimp only [bx,Cx.dJ]
 have Qz:(bs.map V.ref).length=(done.map nI).length:=by rw[ak,ak,j3,Xq]
 refine⟨_,rfl,_,rfl,ja,da,_,_,rfl,aP.of R.aD,aP.of JA,λ D hD=>?_⟩;refine d_ (C6 (aP.of R.aD) (aP.of JA) Qz) (λ i=>some (V.int ((done.getD i 0:Int) -((l.getD i o0).due:Int)))) hD (by rw[ak];omega) (λ i x H1 H2 Qy Qn hi s1 eG hy hn=>?_) (λ H1 s1 h1=>?_)
 .obtain⟨Tp,y,z,hx,hz,rfl,hT,rfl⟩:=eG;rw[ak]at hi;rw[aT,ay hi]at hx;rw[aT,ay ah]at hz;cases hx;cases hz;have s2:=ae.new (o:=.fc [V.ref bs[i],nI (done[i]'ah)]) hT
  obtain⟨_,dx,ho⟩:=R.at_ i bs[i] (ay hi);refine⟨Tp,_,rfl,e9.of aa,rfl,_,_,rfl,_,_,rfl,rfl,rfl,?_⟩;refine⟨_,rfl,_,rfl,rF ((s1.trans s2) _ _ ho) TB.Kk (TB.nO _ zq_dk) rfl ⟨_,_,rfl,rfl,hy _ _ ?_ s2⟩⟩;rw[aG,ay (show i<done.length by omega)];rfl
 .rw[gA,ak,j3]at h1;have e:((bf l.length).map λ i=>V.int ((done.getD i 0:Int) -((l.getD i o0).due:Int)))=((l.zip done).map λ e=>(e.2:Int) -(e.1.due:Int)).map V.int:=by
   refine kn i6 λ i h1 h2=>?_
   have hi:i<l.length:=by simpa using h1
   rw[fW,mM,fW,fW,CM,aG,ay (show i<done.length by omega),aG,ay hi];rfl
  rw[e]at h1;refine⟨D,_,rfl,aP.of h1,?_⟩;rw[RD];exact k H1 s1
def NS(B:CB):Sp:=λ vs H Q _=>∃(ja:Addr)(l:List fv)(bs:List Addr)(a b:Nat),vs=[.ref ja,nI a,nI b]/\bU (uB B l) H ja bs/\bs.length=l.length/\l.length<=100/\∀H',ae H H' ->Q (nI (zr l a b)) H'
theorem RF(F:bi K "must_be_done" jP f fd)(T:Txt K mg C)(TB:iw K B):bj P w K mg base CX0 1 f fd [uO,"a","b"] (NS B):=by
 refine F.ok [uO,"a","b",dL] λ b_ A aA s H vs Q E hr h nd=>?_
 obtain⟨ja,l,bs,a,b,rfl,R,j3,ic,k⟩:=h;refine⟨_,af (aw (aY (zV rfl) rfl (T.bu _ zq_dk) (show bootBuiltins "sum"=some (.builtin "sum") by decide+kernel)
  (dE (iL (own:=[("job",3)]) (tt:=U0 (pE (tU (zL λ i j=>.bl (decide (j<=i))) (gN K (bQ 3) "may_run_from") (bQ 1))) (pE (tU (zL λ i j=>.bl (decide (i<=j))) (gN K (bQ 3) "due") (bQ 2)))) (te:=gN K (bQ 3) "need") rfl nd (bF (pv 0)) (bP (by show gW [uO,"a","b",dL] (aJ jP) _ _=true;decide+kernel))
  (λ _ _ _ _ _=>by exact aU (i:=3) nd rfl (aH rfl)) (λ _ _ _ _ _=>by exact lL (PW.pt (qd (aI Bv (ai (pv 3) rfl) (pv 1) (aR _)) (lI (aI qH (ai (pv 3) rfl) (pv 2) (aR _)))))) (λ _ _ _ _ _=>by exact ai (pv 3) rfl)) il))),?_⟩
 try dsimp only [bx,Cx.dJ]
 refine⟨_,rfl,ja,rfl,⟨_,aP.of R.aD⟩,λ D hD=>?_⟩;refine d_ (cu (aP.of R.aD)) (λ i=>if(λ x:fv=>decide (a<=x.come)&&decide (x.due<=b)) (l.getD i o0)=true then some ((λ x:fv=>nI x.need) (l.getD i o0))else none) hD (by rw[ak];omega) (λ i x H1 H2 Qy Qn hi s1 eG hy hn=>?_) (λ H1 s1 h1=>?_)
 .obtain⟨hx,rfl⟩:=eG;rw[ak]at hi;rw[aT,ay hi]at hx;cases hx;obtain⟨_,dx,ho⟩:=R.at_ i bs[i] (ay hi);have Bf:=s1 _ _ ho;refine⟨rfl,_,rfl,rF Bf TB.Kk (TB.nO _ zq_dk) rfl ⟨_,rfl,_,_,rfl,rfl,_,rfl,?_⟩⟩;by_cases c1:a<=(l.getD i o0).come
  .refine gk (bO (show(a:Int)<=(((l.getD i o0).come:Nat):Int) by omega)) ?_;refine⟨_,rfl,rF Bf TB.Kk (TB.nO _ zq_dk) rfl ⟨_,rfl,_,_,rfl,rfl,_,rfl,?_⟩⟩;by_cases c2:(l.getD i o0).due<=b
   .refine gk (bO (show(((l.getD i o0).due:Nat):Int)<=(b:Int) by omega)) ?_;exact⟨_,rfl,rF Bf TB.Kk (TB.nO _ zq_dk) rfl (hy _ _ (au (show(decide (a<=(l.getD i o0).come)&&decide ((l.getD i o0).due<=b))=true by rw[bO c1,bO c2];rfl)) (ae.refl _))⟩
   .refine gg (gh (show¬(((l.getD i o0).due:Nat):Int)<=(b:Int) by omega)) ?_;exact hn _ (ao (show¬(decide (a<=(l.getD i o0).come)&&decide ((l.getD i o0).due<=b))=true by rw[gh c2,BG];decide)) (ae.refl _)
  .refine gg (gh (show¬(a:Int)<=(((l.getD i o0).come:Nat):Int) by omega)) ?_;refine gg rfl ?_;exact hn _ (ao (show¬(decide (a<=(l.getD i o0).come)&&decide ((l.getD i o0).due<=b))=true by rw[gh c1,KC];decide)) (ae.refl _)
 .rw[ak,j3]at h1;have ef:=rT (λ x:fv=>decide (a<=x.come)&&decide (x.due<=b)) (λ x:fv=>nI x.need) l o0;have h1:=h1.trans (congrArg (λ z=>some (HO.aD z)) ef);have e:((l.filter λ x:fv=>decide (a<=x.come)&&decide (x.due<=b)).map λ x=>nI x.need)=(((l.filter λ x:fv=>decide (a<=x.come)&&decide (x.due<=b)).map λ x=>x.need).map λ n:Nat=>(n:Int)).map V.int:=by
   rw[bB,bB];rfl
  rw[e]at h1;refine⟨D,_,rfl,aP.of h1,?_⟩;rw[vB];exact k H1 s1
def xp(B:CB):Sp:=λ vs H Q _=>∃(ja:Addr)(l:List fv)(bs:List Addr),vs=[.ref ja]/\bU (uB B l) H ja bs/\bs.length=l.length/\l.length<=60/\
 (HF l=none ->∀H',ae H H' ->Q .bu H')/\∀a b,HF l=some (a,b) ->qs H [(a:Int),(b:Int),(zr l a b:Int)] Q
theorem Di(F:bi K "tightest" lP f fd)(T:Txt K mg C)(TB:iw K B)(D1:cF P w K mg base "must_be_done" [uO,"a","b"] 1 (NS B)):bj P w K mg base CX0 2 f fd [uO] (xp B):=by
 refine F.ok [uO,"b",dL,"a","asked"] λ b_ A aA s H vs Q E hr h nd=>?_
 obtain⟨ja,l,bs,rfl,R,j3,h60,k0,k1⟩:=h;refine⟨_,ab (ee eY rfl (bF (aY yG rfl (T.bu _ zq_dk) (show bootBuiltins "sorted"=some (.builtin "sorted") by decide+kernel)
   (aO (iL (own:=[("job",2)]) (tt:=jE) (te:=gN K (bQ 2) "due") rfl nd (bF (pv 0)) (bP (by show gW [uO,"b",dL,"a","asked"] (aJ lP) _ _=true;decide+kernel)) (λ _ _ _ _ _=>by exact aU (i:=2) nd rfl (aH rfl)) (λ _ _ _ _ _=>by exact di) (λ _ _ _ _ _=>by exact ai (pv 2) rfl))))) (aU (i:=1) nd rfl (aH rfl))
   (af (ee eY rfl (bF (aY yG rfl (T.bu _ zq_dk) (show bootBuiltins "sorted"=some (.builtin "sorted") by decide+kernel)
    (aO (iL (own:=[("job",2)]) (tt:=jE) (te:=gN K (bQ 2) "may_run_from") rfl nd (bF (pv 0)) (bP (by show gW [uO,"b",dL,"a","asked"] (aJ lP) _ _=true;decide+kernel)) (λ _ _ _ _ _=>by exact aU (i:=2) nd rfl (aH rfl)) (λ _ _ _ _ _=>by exact di) (λ _ _ _ _ _=>by exact ai (pv 2) rfl))))) (aU (i:=3) nd rfl (aH rfl))
    (ab (bg (i:=4) nd rfl (aH rfl) (al D1 hr rfl (jG (pv 0) (pv 3) (pv 1))))
    (af (br (aI kZ (pv 4) (aY (k4 rfl) rfl (T.bu _ zq_dk) (show bootBuiltins "max"=some (.builtin "max") by decide+kernel) (bA (bG gU (pv 1) (pv 3)) am)) (aR _)) (af (aw (a_ (jG (pv 3) (pv 1) (pv 4))))) aK))))))
  (af (aw fC)),?_⟩
 try dsimp only [bx,Cx.dJ]
 have aa8:bs.length<1000000:=by omega
 refine⟨_,rfl,ja,rfl,⟨_,aP.of R.aD⟩,λ D hD=>?_⟩;refine d_ (cu (aP.of R.aD)) (λ i=>some (nI (l.getD i o0).due)) hD (by rw[ak];exact aa8) (λ i x H1 H2 Qy Qn hi s1 eG hy hn=>?_) (λ H1 s1 h1=>?_)
 .obtain⟨hx,rfl⟩:=eG;rw[ak]at hi;rw[aT,ay hi]at hx;cases hx;obtain⟨_,dx,ho⟩:=R.at_ i bs[i] (ay hi);exact⟨rfl,_,rfl,rF (s1 _ _ ho) TB.Kk (TB.nO _ zq_dk) rfl (hy _ _ rfl (ae.refl _))⟩
 rw[gA,ak,j3,fQ (λ x:fv=>nI x.due)]at h1;have e1:(l.map λ x:fv=>nI x.due)=((l.map (·.due)).map λ n:Nat=>(n:Int)).map V.int:=by rw[bB,bB];rfl
 rw[e1]at h1;refine⟨D,_,rfl,aP.of h1,(by rw[ak,ak];omega),λ ns p1 pm1 so1 hp1=>?_⟩;obtain⟨sb,rfl,sbs,sbm,sbl⟩:=HB pm1 so1;have s2:=ae.new (o:=.aD ((sb.map λ n:Nat=>(n:Int)).map V.int)) hp1;have mZ:=s1.trans s2;refine⟨p1,rfl,⟨_,aP.of aa⟩,?_⟩;refine eV (K:=K) (a:=p1) (xs:=(sb.map λ n:Nat=>(n:Int)).map V.int) (λ i σ H'=>ae (aS H1 p1 (.aD ((sb.map λ n:Nat=>(n:Int)).map V.int))) H'/\(∃x1 x2 x3 x4,σ=[some (.ref ja),x1,x2,x3,x4])/\∀b∈sb.take i,∀a∈l.map (·.come),¬AF l a b) ⟨ae.refl _,⟨_,_,_,_,rfl⟩,λ b hb=>by simp at hb⟩ (λ i σ H' _ q=>aP.of (q.1 _ _ aa)) (λ i x σ H' hx q=>?_) (λ σ H' q=>?_)
 .obtain⟨s3,⟨x1,x2,x3,x4,rfl⟩,Dj⟩:=q;have jF:i<sb.length:=by
   have:=(gM.mp hx).1;rwa[ak,ak]at this
  rw[aT,aT,ay jF]at hx;cases hx;have ie:=mZ.trans s3;have R3:=R.same ie;refine⟨_,rfl,ja,rfl,⟨_,aP.of R3.aD⟩,λ D2 RG=>?_⟩;refine d_ (cu (aP.of R3.aD)) (λ i=>some (nI (l.getD i o0).come)) RG (by rw[ak];exact aa8) (λ i x H4 H5 Qy Qn hi s4 eG hy hn=>?_) (λ H4 s4 h4=>?_)
  .obtain⟨hx,rfl⟩:=eG;rw[ak]at hi;rw[aT,ay hi]at hx;cases hx;obtain⟨_,dx,ho⟩:=R3.at_ i bs[i] (ay hi);exact⟨rfl,_,rfl,rF (s4 _ _ ho) TB.Kk (TB.nO _ zq_dk) rfl (hy _ _ rfl (ae.refl _))⟩
  rw[gA,ak,j3,fQ (λ x:fv=>nI x.come)]at h4;have e4:(l.map λ x:fv=>nI x.come)=((l.map (·.come)).map λ n:Nat=>(n:Int)).map V.int:=by rw[bB,bB];rfl
  rw[e4]at h4;refine⟨D2,_,rfl,aP.of h4,(by rw[ak,ak];omega),λ ns2 p2 pm2 so2 ou=>?_⟩;obtain⟨sa,rfl,sas,sam,sal⟩:=HB pm2 so2;have s5:=ae.new (o:=.aD ((sa.map λ n:Nat=>(n:Int)).map V.int)) ou;have aa9:=s3.trans (s4.trans s5);refine⟨p2,rfl,⟨_,aP.of aa⟩,?_⟩;refine eV (K:=K) (a:=p2) (xs:=(sa.map λ n:Nat=>(n:Int)).map V.int) (λ j σ H'=>ae (aS H4 p2 (.aD ((sa.map λ n:Nat=>(n:Int)).map V.int))) H'/\(∃y2 y3 y4,σ=[some (.ref ja),some (nI sb[i]),y2,y3,y4])/\∀a∈sa.take j,¬AF l a sb[i]) ⟨ae.refl _,⟨_,_,_,rfl⟩,λ a ha=>by simp at ha⟩ (λ j σ H' _ q=>aP.of (q.1 _ _ aa)) (λ j x σ H6 hx q=>?_) (λ σ H6 q=>?_)
  .obtain⟨s6,⟨y2,y3,y4,rfl⟩,NT⟩:=q;have Bl:j<sa.length:=by
    have:=(gM.mp hx).1;rwa[ak,ak]at this
   rw[aT,aT,ay Bl]at hx;cases hx;have aba:=mZ.trans (aa9.trans s6);refine⟨_,rfl,_,rfl,_,rfl,ja,l,bs,sa[j],sb[i],rfl,R.same aba,j3,ah,λ H7 s7=>?_⟩;have s8:=aba.trans s7;refine⟨_,rfl,_,rfl,_,rfl,_,_,rfl,rfl,_,_,rfl,_,_,rfl,rfl,_,rfl,?_⟩;by_cases ht:AF l sa[j] sb[i]
   .have ht':=ht;unfold AF at ht';refine gk (bO (show(if(0:Int)>(sb[i]:Int) -(sa[j]:Int)then(0:Int)else(sb[i]:Int) -(sa[j]:Int))<((zr l sa[j] sb[i]:Nat):Int) by split<;>omega)) ?_;refine⟨_,rfl,_,rfl,_,rfl,(by show(3:Nat)<=2^24;decide),λ q hq=>?_⟩;have hts:HF l=some (sa[j],sb[i]):=by
     refine Fl ((sbm _).mp (gH jF)) ((sam _).mp (gH Bl)) ht (λ b' j7 dC a' Wl=>?_) (λ a' Wl dC=>?_)
     .obtain⟨i',uV,rfl⟩:=gG ((sbm b').mpr j7);exact Dj _ (Df uV (HA sbs jF uV dC)) a' Wl
     .obtain⟨j',z7,rfl⟩:=gG ((sam a').mpr Wl);exact NT _ (Df z7 (HA sas Bl z7 dC))
    exact k1 _ _ hts q _ (ae.bN s8 hq) (s8.trans (ae.new hq)) (by rw[aa];rfl)
   .have ht':=ht;unfold AF at ht';refine gg (gh (show¬(if(0:Int)>(sb[i]:Int) -(sa[j]:Int)then(0:Int)else(sb[i]:Int) -(sa[j]:Int))<((zr l sa[j] sb[i]:Nat):Int) by split<;>omega)) ?_;refine⟨s6.trans s7,⟨_,_,_,rfl⟩,λ a ha=>?_⟩;rw[mz,ay Bl]at ha;rcases kX.mp ha with q|q
    .exact NT a q
    .rw[cW.mp q];exact ht
  .obtain⟨s6,⟨y2,y3,y4,rfl⟩,NT⟩:=q;rw[ak,ak,km]at NT;refine⟨aa9.trans s6,⟨_,_,_,_,rfl⟩,λ b hb a ha=>?_⟩;rw[mz,ay jF]at hb;rcases kX.mp hb with q|q
   .exact Dj b q a ha
   .rw[cW.mp q];exact NT a ((sam a).mpr ha)
 .obtain⟨s3,⟨x1,x2,x3,x4,rfl⟩,Dj⟩:=q;rw[ak,ak,km]at Dj;exact k0 (Fk λ b hb a ha=>Dj b ((sbm b).mpr hb) a ha) H' (mZ.trans s3)
structure o5(C:CA)(H H':Hp):Prop where
 keep:∀b o,H b=some o ->b∉C.cE.map (·.1) ->H' b=some o
 bu:∀b,H' b=none ->H b=none
theorem o5.same{C:CA}{H H':Hp}(s:ae H H'):o5 C H H':=⟨λ b o e _=>s b o e,λ _ e=>ae.bN s e⟩
theorem o5.trans{C:CA}{H H1 H2:Hp}(a:o5 C H H1)(b:o5 C H1 H2):o5 C H H2:=⟨λ c o e n=>b.keep c o (a.keep c o e n) n,λ c e=>a.bu c (b.bu c e)⟩
theorem o5.jb{C:CA}{H H':Hp}{Pt:Addr}{qn:Str}(hP:wO C Pt qn)(sp:cX Pt H H')(T:qj H' Pt qn):o5 C H H':=by
 have i9:Pt∈C.cE.map (·.1):=cY.mpr ⟨_,hP.1,rfl⟩;refine⟨λ b o e n=>sp b o e λ z=>n (z▸i9),λ b eb=>?_⟩;cases q:H b with
 |none=>rfl
 |some o=>
  by_cases z:b=Pt
  .obtain⟨ps',Kh⟩:=T.is;rw[z,Kh]at eb;cases eb
  .rw[sp b o q z]at eb;cases eb
def kC(C:CA)(k:Nat)(g:List Int ->List Int ->List Int):Sp:=λ vs H Q _=>∃(na ra:Addr)(ns row:List Int),vs=[.ref na,.ref ra]/\H na=some (.aD (ns.map V.int))/\H ra=some (.aD (row.map V.int))/\ns.length=k/\row.length<=100/\cj C H/\
 ∀p H',H p=none ->o5 C H H' ->cj C H' ->H' p=some (.aD ((g ns row).map V.int)) ->Q (.ref p) H'
def uD(ns row:List Int):List Int:=if rV row=true then(cI kD (.once row)).2 else [-2]
def oF(ns row:List Int):List Int:=if rV row=true then(cI kD (.tight row)).2 else [-2]
theorem RH{f Pt:Addr}{fd:bp}(F:bi K "once" Mh f fd)(T:Txt K mg C)(U:cQ K mg)(hP:wO C Pt Dh)(D1:cF P w K mg base "are_once_jobs" [c_] 4 (Fp K rV))(D2:cF P w K mg base "once_jobs" [c_] 3 (AI K B))(D3:cF P w K mg base "done_times" [uO] 6 (HE B Pt))(D4:cF P w K mg base "greatest_lateness" [uO,"done"] 1 (NR B)):
  bj P w K mg base CX0 7 f fd [fb,c_] (kC C 0 uD):=by
 refine F.ok [fb,c_,uO,"done","lateness"] λ b_ A aA s H vs Q E hr h nd=>?_
 obtain⟨na,ra,ns,row,rfl,iR,iP,qE,ic,Tb,k⟩:=h;refine⟨_,ab (br (dw (cx (al D1 (hr.bI zq_dc) rfl (aO (pv 1))))) (af (aw (a_ (aO (cN (cQ.i U (n:=-2) zq_dk) rfl))))) aK)
  (ab (bg (i:=2) nd rfl (aH rfl) (al D2 (hr.bI zq_dc) rfl (aO (pv 1))))
  (ab (bg (i:=3) nd rfl (aH rfl) (al D3 hr rfl (aO (pv 2))))
  (ab (bg (i:=4) nd rfl (aH rfl) (al D4 (hr.bI zq_dc) rfl (bA (pv 2) (pv 3))))
  (af (aw (bG vZ (a_ (bA (qG (aI qH (pv 4) am (aR _)) am am) (pv 4))) (pv 3))))))),?_⟩
 try dsimp only [bx,Cx.dJ]
 refine⟨_,rfl,ra,row,rfl,aP.of iP,ic,λ H1 s1=>⟨_,rfl,?_⟩⟩;cases ok:rV row with
 |false=>
  refine gk rfl ?_;have hg:uD ns row=[-2]:=by unfold uD;rw[ok];rfl
  rw[hg]at k;refine⟨bE,λ p hp=>?_⟩;exact k p _ (ae.bN s1 hp) (o5.same (s1.trans (ae.new hp))) (Tb.same (s1.trans (ae.new hp))) (by rw[aa];rfl)
 |true=>
  refine gg rfl ?_;have hg:uD ns row=[if uE (jg row)<=0 then 1 else 0,uE (jg row)]++Vbtkad.ints (oE (jg row)):=by unfold uD;rw[ok];rfl
  rw[hg]at k;obtain⟨h12,uF⟩:=o4 ok;obtain⟨l,hl⟩:=bS (jg row);refine⟨_,rfl,ra,row,rfl,aP.of (s1 _ _ iP),ok,λ ja H2 bs Jl s2 j3 R2=>?_⟩;rw[<-hl]at k h12 uF j3 R2;have T2:=(Tb.same s1).same s2;refine⟨_,rfl,ja,l,bs,rfl,R2,j3,ah,λ x hx=>(uF x hx).1,T2 _ hP.1,λ da H3 JA RC Wo h3=>?_⟩;obtain⟨ps,VU⟩:=(T2 _ hP.1).is;have R3:=R2.jb VU RC (λ j dx z=>by cases z);have YT:(oE l).length=l.length:=by
   unfold oE;rw[ak];have:∀n t (f:fX),(abb l n t f).length=f.length:=λ n=>by
    induction n with
    |zero=>intro t f;rfl
    |succ n ih=>intro t f;rw[iF,ih,lZ]
   rw[this,ak]
  refine⟨_,rfl,_,rfl,ja,da,l,bs,oE l,rfl,R3,j3,h3,YT,ah,λ H4 s4=>?_⟩;have abc:NQ l (oE l)=uE l:=rfl;rw[abc];have fin:∀(z:Int),(if uE l<=0 then(1:Int)else 0)=z ->∀q H5,H4 q=none ->H5=aS H4 q (.aD [.int z,.int (uE l)]) ->∃a b xs zs,V.ref q=.ref a/\V.ref da=.ref b/\H5 a=some (.aD xs)/\H5 b=some (.aD zs)/\xs.length+zs.length<=sizeLine/\∀p,H5 p=none ->Q (.ref p) (aS H5 p (.aD (xs++zs))):=λ z hz q H5 hq e5=>by
   have s5:ae H4 H5:=by rw[e5];exact ae.new hq
   refine⟨q,da,_,_,rfl,rfl,(by rw[e5];exact aa),s5 _ _ (s4 _ _ h3),?_,λ p hp=>?_⟩
   .show 2+((oE l).map nI).length<=2^24;rw[ak,YT];omega
   .have sz:=s4.trans (s5.trans (ae.new (o:=.aD ([V.int z,V.int (uE l)]++(oE l).map nI)) hp));have fr:=(o5.same (C:=C) (s1.trans s2)).trans ((o5.jb hP RC Wo).trans (o5.same sz));have T0:H3 p=none:=ae.bN s4 (ae.bN s5 hp);refine k p _ ?_ fr ((T2.jb hP.1 hP.2 RC Wo).same sz) ?_
    .exact ae.bN (s1.trans s2) ((o5.jb hP RC Wo).bu p T0)
    .rw[aa,hz];show some (HO.aD (V.int z::V.int (uE l)::(oE l).map nI))=some (.aD (([z,uE l]++Vbtkad.ints (oE l)).map V.int));rw[dZ];unfold Vbtkad.ints;rw[bB];rfl
  refine⟨_,rfl,_,_,rfl,rfl,_,rfl,?_⟩;by_cases yL:uE l<=0
  .refine gk (bO yL) ?_;refine⟨_,rfl,eM,λ q hq=>⟨_,rfl,?_⟩⟩;exact fin 1 (au yL) q _ hq rfl
  .refine gg (gh yL) ?_;refine⟨_,rfl,eM,λ q hq=>⟨_,rfl,?_⟩⟩;exact fin 0 (ao yL) q _ hq rfl
theorem NU(F:bi K "tight" GU f fd)(T:Txt K mg C)(U:cQ K mg)(D1:cF P w K mg base "are_once_jobs" [c_] 4 (Fp K rV))(D2:cF P w K mg base "once_jobs" [c_] 3 (AI K B))(D3:cF P w K mg base "tightest" [uO] 2 (xp B)):
  bj P w K mg base CX0 5 f fd [fb,c_] (kC C 0 oF):=by
 refine F.ok [fb,c_,"found"] λ b_ A aA s H vs Q E hr h nd=>?_
 obtain⟨na,ra,ns,row,rfl,iR,iP,qE,ic,Tb,k⟩:=h;refine⟨_,ab (br (dw (cx (al D1 hr rfl (aO (pv 1))))) (af (aw (a_ (aO (cN (cQ.i U (n:=-2) zq_dk) rfl))))) aK)
  (ab (bg (i:=2) nd rfl (aH rfl) (al D3 (hr.bI zq_dc) rfl (aO (al D2 (hr.bI zq_dc) rfl (aO (pv 1))))))
  (ab (br (aI vP (pv 2) fC (aR _)) (af (aw (a_ (aO am)))) aK)
  (af (aw (bG vZ (a_ (aO am)) (pv 2)))))),?_⟩
 try dsimp only [bx,Cx.dJ]
 refine⟨_,rfl,ra,row,rfl,aP.of iP,ic,λ H1 s1=>⟨_,rfl,?_⟩⟩;cases ok:rV row with
 |false=>
  refine gk rfl ?_;have hg:oF ns row=[-2]:=by unfold oF;rw[ok];rfl
  rw[hg]at k;refine⟨bE,λ p hp=>?_⟩;exact k p _ (ae.bN s1 hp) (o5.same (s1.trans (ae.new hp))) (Tb.same (s1.trans (ae.new hp))) (by rw[aa];rfl)
 |true=>
  refine gg rfl ?_;have hg:oF ns row=match HF (jg row)with|none=>[0]|some e=>Vbtkad.ints [1,e.1,e.2,zr (jg row) e.1 e.2]:=by unfold oF;rw[ok];rfl
  rw[hg]at k;obtain⟨h12,_⟩:=o4 ok;obtain⟨l,hl⟩:=bS (jg row);refine⟨_,rfl,ra,row,rfl,aP.of (s1 _ _ iP),ok,λ ja H2 bs Jl s2 j3 R2=>?_⟩;rw[<-hl]at k h12 j3 R2;have mZ:=s1.trans s2;refine⟨ja,l,bs,rfl,R2,j3,ah,λ hn H3 s3=>?_,λ a b hs p3 H3 T0 s3 h3=>?_⟩
  .rw[hn]at k;have ie:=mZ.trans s3;refine⟨_,rfl,rfl,_,rfl,gk rfl ⟨bE,λ p hp=>?_⟩⟩;exact k p _ (ae.bN ie hp) (o5.same (ie.trans (ae.new hp))) (Tb.same (ie.trans (ae.new hp))) (by rw[aa];rfl)
  .rw[hs]at k;have ie:=mZ.trans s3;refine⟨_,rfl,rfl,_,rfl,gg rfl ⟨bE,λ q hq=>⟨_,rfl,?_⟩⟩⟩;have s4:=ae.new (o:=.aD [V.int 1]) hq;refine⟨q,p3,_,_,rfl,rfl,aa,s4 _ _ h3,(by show(4:Nat)<=2^24;decide),λ p hp=>?_⟩;have sz:=ie.trans (s4.trans (ae.new (o:=.aD ([V.int 1]++[(a:Int),(b:Int),(zr l a b:Int)].map V.int)) hp));exact k p _ (ae.bN ie (ae.bN s4 hp)) (o5.same sz) (Tb.same sz) (by rw[aa];rfl)
theorem NV{xs:List V}{n:Nat}:qL xs none (some (n:Int))=xs.take n:=by
 unfold qL;rw[HT.vq,HT.BC,aa0,aa4];by_cases h:n<=xs.length
 .rw[CZ h]
 .rw[aaK ah,nG (ci _),nG ah]
structure Pw(l:List aV):Prop where
 len:l.length<=6
 all:∀x∈l,0<x.need/\x.need<=12/\0<x.period/\x.period<=12/\0<x.due/\x.due<=12
theorem Pw.get{l:List aV}(h:Pw l){i:Nat}(hi:i<l.length):0<(l.getD i a0).need/\(l.getD i a0).need<=12/\0<(l.getD i a0).period/\(l.getD i a0).period<=12/\0<(l.getD i a0).due/\(l.getD i a0).due<=12:=by
 refine h.all _ ?_;rw[aG,ay hi];exact gH hi
theorem NW(n:Nat)(h0:0<n)(h1:n<=12):n∣27720:=by
 have h:∀k:Fin 13,0<k.val ->k.val∣27720:=by decide
 exact h ⟨n,ah⟩ h0
theorem lcm_dvd{l:List aV}(h:∀x∈l,0<x.period/\x.period<=12):ig l∣27720:=by
 unfold ig;have go:∀(r:List aV)(a:Nat),(∀x∈r,0<x.period/\x.period<=12) ->a∣27720 ->r.foldl (λ a x=>HG a x.period) a∣27720:=by
  intro r;induction r with
  |nil=>intro a _ ha;exact ha
  |cons x r ih=>
   intro a hr ha;obtain⟨p0,p1⟩:=hr x fM;exact ih _ (λ y hy=>hr y (ff _ hy)) (Nat.lcm_dvd ha (NW _ p0 p1))
 exact go l 1 h (Nat.one_dvd _)
theorem Pw.lcm{l:List aV}(h:Pw l)(i:Nat):0<ig (l.take i)/\ig (l.take i)<=27720:=by
 have:=lcm_dvd (l:=l.take i) λ x hx=>by
  obtain⟨_,_,p0,p1,_⟩:=h.all x (List.mem_of_mem_take hx);exact⟨p0,p1⟩
 exact⟨Nat.pos_of_dvd_of_pos this zq_dc,Nat.le_of_dvd zq_dc this⟩
theorem NX{l:List aV}{i:Nat}(hi:i<l.length):ig (l.take (i+1))=HG (ig (l.take i)) (l.getD i a0).period:=by
 unfold ig;rw[mz,ay hi,MF,aG,ay hi];rfl
def Um:Sp:=λ vs H Q _=>∃a b:Nat,vs=[nI a,nI b]/\0<a/\a<=100000/\0<b/\b<=100000/\Q (nI (HG a b)) H
theorem Wr(F:bi K "least_multiple" lq f fd)(D1:cF P w K mg base "greatest_divisor" ["one","other"] 1 Nd):bj P w K mg base CX0 2 f fd ["one","other"] Um:=by
 refine F.ok ["one","other"] λ b_ A aA s H vs Q E hr h nd=>?_
 obtain⟨a,b,rfl,p1,p2,p3,p4,k⟩:=h;refine⟨_,af (aw (bG lJ (bG sD (pv 0) (pv 1)) (al D1 hr rfl (bA (pv 0) (pv 1))))),?_⟩
 try dsimp only [bx,Cx.dJ]
 have gp:0<eW a b:=Nat.gcd_pos_of_pos_left _ p1;have gl:eW a b<=a:=Nat.gcd_le_left _ p1;refine⟨_,rfl,_,rfl,_,_,rfl,rfl,.inl ⟨ah,ah⟩,_,rfl,_,rfl,a,b,rfl,_,_,rfl,rfl,⟨(by show(0:Int)<((eW a b:Nat):Int);omega),(by show((eW a b:Nat):Int)<1073741824;omega)⟩,?_⟩;have e:((a:Int)*(b:Int))/((eW a b:Nat):Int)=((HG a b:Nat):Int):=by
  unfold HG
  norm_cast
 show Q (V.int ((a:Int)*(b:Int)/((eW a b:Nat):Int))) H;rw[e];exact k
def Fq:Sp:=λ vs H Q _=>∃a b:Nat,vs=[nI a,nI b]/\0<b/\b<=100000/\Q (nI ((a+b -1)/b)) H
theorem RI(F:bi K "divided_up" rj f fd):bj P w K mg base CX0 1 f fd ["number","divisor"] Fq:=by
 refine F.ok ["number","divisor"] λ b_ A aA s H vs Q E hr h nd=>?_
 obtain⟨a,b,rfl,p3,p4,k⟩:=h;refine⟨_,af (aw (bG lJ (bG gU (bG eh (pv 0) (pv 1)) am) (pv 1))),?_⟩
 try dsimp only [bx,Cx.dJ]
 refine⟨_,rfl,_,rfl,_,_,rfl,rfl,_,_,rfl,rfl,_,rfl,_,_,rfl,rfl,⟨ah,ah⟩,?_⟩;have e:((a:Int)+(b:Int) -1)/(b:Int)=(((a+b -1)/b:Nat):Int):=by
  rw[show(a:Int)+(b:Int) -1=((a+b -1:Nat):Int) by omega]
  norm_cast
 show Q (V.int (((a:Int)+(b:Int) -1)/(b:Int))) H;rw[e];exact k
def HH(B:CB):Sp:=λ vs H Q _=>∃(ka:Addr)(l:List aV)(bs:List Addr),vs=[.ref ka]/\bU (mN B l) H ka bs/\bs.length=l.length/\Pw l/\Q (nI (ig l)) H
theorem NY(F:bi K "common_round" n9 f fd)(TB:iw K B)(D1:cF P w K mg base "least_multiple" ["one","other"] 2 Um):bj P w K mg base CX0 3 f fd [tO] (HH B):=by
 refine F.ok [tO,"found","kind"] λ b_ A aA s H vs Q E hr h nd=>?_
 obtain⟨ka,l,bs,rfl,R,j3,ok,k⟩:=h;refine⟨_,ab (bg (i:=1) nd rfl (aH rfl) am) (ab (ee eY rfl (bF (pv 0)) (aU (i:=2) nd rfl (aH rfl)) (af (bg (i:=1) nd rfl (aH rfl) (al D1 hr rfl (bA (pv 1) (ai (pv 2) rfl)))))) (af (aw (pv 1)))),?_⟩
 try dsimp only [bx,Cx.dJ]
 refine⟨_,rfl,ka,rfl,⟨_,aP.of R.aD⟩,?_⟩;refine eV (K:=K) (a:=ka) (xs:=bs.map V.ref) (λ i σ H'=>H'=H/\∃x,σ=[some (.ref ka),some (nI (ig (l.take i))),x]) ⟨rfl,⟨_,rfl⟩⟩ (λ i σ H' _ q=>by rw[q.1];exact aP.of R.aD) (λ i x σ H' hx q=>?_) (λ σ H' q=>?_)
 .obtain⟨rfl,x0,rfl⟩:=q;have hi:i<bs.length:=by
   have:=(gM.mp hx).1;rwa[ak]at this
  rw[aT,ay hi]at hx;cases hx;obtain⟨_,dx,ho⟩:=R.at_ i bs[i] (ay hi);obtain⟨l0,l1⟩:=ok.lcm i;obtain⟨_,_,p0,p1,_⟩:=ok.get (show i<l.length by omega);refine⟨_,rfl,_,rfl,rF ho TB.AG (TB.nK _ zq_dk) rfl ⟨_,_,rfl,l0,ah,p0,ah,?_⟩⟩;rw[NX (show i<l.length by omega)];exact⟨rfl,_,rfl⟩
 .obtain⟨rfl,x0,rfl⟩:=q;rw[ak,j3,km];exact⟨_,rfl,k⟩
def Fs(B:CB):Sp:=λ vs H Q _=>∃(a dx:Addr)(x:aV)(t:Nat),vs=[.ref a,nI t]/\H a=some (.bD B.cK dx (gE x.period x.need x.due))/\0<x.period/\x.period<=1000/\Q (nI (s_ x t)) H
theorem RJ(F:bi K "due_count" uk f fd)(TB:iw K B):bj P w K mg base CX0 1 f fd ["kind","until"] (Fs B):=by
 refine F.ok ["kind","until"] λ b_ A aA s H vs Q E hr h nd=>?_
 obtain⟨a,dx,x,t,rfl,ha,p0,p1,k⟩:=h;refine⟨_,ab (br (aI tV (pv 1) (ai (pv 0) rfl) (aR _)) (af (aw am)) aK) (af (aw (bG eh (bG lJ (bG gU (pv 1) (ai (pv 0) rfl)) (ai (pv 0) rfl)) am))),?_⟩
 try dsimp only [bx,Cx.dJ]
 refine⟨_,rfl,_,rfl,rF ha TB.AG (TB.nK _ zq_dk) rfl ⟨_,_,rfl,rfl,_,rfl,?_⟩⟩;unfold s_ at k;by_cases h:t<x.due
 .rw[au h]at k;exact gk (bO (show(t:Int)<(x.due:Int) by omega)) k
 .rw[ao h]at k;refine gg (gh (show¬(t:Int)<(x.due:Int) by omega)) ?_;refine⟨_,rfl,_,rfl,rF ha TB.AG (TB.nK _ zq_dk) rfl ⟨_,_,rfl,rfl,_,rfl,rF ha TB.AG (TB.nK _ zq_dk) rfl ⟨_,_,rfl,rfl,⟨ah,ah⟩,_,_,rfl,rfl,?_⟩⟩⟩;have e:((t:Int) -(x.due:Int))/(x.period:Int)+1=(((t -x.due)/x.period+1:Nat):Int):=by
   rw[show(t:Int) -(x.due:Int)=((t -x.due:Nat):Int) by omega]
   norm_cast
  show Q (V.int (((t:Int) -(x.due:Int))/(x.period:Int)+1)) H;rw[e];exact k
def Uo(B:CB):Sp:=λ vs H Q _=>∃(ka:Addr)(l:List aV)(bs:List Addr)(t:Nat),vs=[.ref ka,nI t]/\bU (mN B l) H ka bs/\bs.length=l.length/\Pw l/\∀H',ae H H' ->Q (nI (oG l t)) H'
theorem Ws(F:bi K "demand_until" jN f fd)(T:Txt K mg C)(TB:iw K B)(D1:cF P w K mg base "due_count" ["kind","until"] 1 (Fs B)):bj P w K mg base CX0 2 f fd [tO,"until"] (Uo B):=by
 refine F.ok [tO,"until","kind"] λ b_ A aA s H vs Q E hr h nd=>?_
 obtain⟨ka,l,bs,t,rfl,R,j3,ok,k⟩:=h;refine⟨_,af (aw (aY (zV rfl) rfl (T.bu _ zq_dk) (show bootBuiltins "sum"=some (.builtin "sum") by decide+kernel)
  (dE (iL (own:=[("kind",2)]) (tt:=jE) (te:=tU (rI KG λ i j=>.int (i*j)) (gN K (bQ 2) "need") (tCall (Fs B) [] E0 (cB (bQ 2) (cB (bQ 1) ik)))) rfl nd (bF (pv 0)) (bP (by show gW [tO,"until","kind"] (aJ jN) _ _=true;decide+kernel))
  (λ _ _ _ _ _=>by exact aU (i:=2) nd rfl (aH rfl)) (λ _ _ _ _ _=>by exact di) (λ _ _ _ _ _=>by exact bG sD (ai (pv 2) rfl) (al D1 hr rfl (bA (pv 2) (pv 1))))) il))),?_⟩
 try dsimp only [bx,Cx.dJ]
 have h6:=ok.len;refine⟨_,rfl,ka,rfl,⟨_,aP.of R.aD⟩,λ D hD=>?_⟩;refine d_ (cu (aP.of R.aD)) (λ i=>some (nI ((l.getD i a0).need*s_ (l.getD i a0) t))) hD (by rw[ak];omega) (λ i x H1 H2 Qy Qn hi s1 eG hy hn=>?_) (λ H1 s1 h1=>?_)
 .obtain⟨hx,rfl⟩:=eG;rw[ak]at hi;rw[aT,ay hi]at hx;cases hx;obtain⟨_,dx,ho⟩:=R.at_ i bs[i] (ay hi);have Bf:=s1 _ _ ho;obtain⟨n0,n1,p0,p1,_⟩:=ok.get (show i<l.length by omega);refine⟨rfl,_,rfl,rF Bf TB.AG (TB.nK _ zq_dk) rfl ⟨_,rfl,_,rfl,bs[i],dx,l.getD i a0,t,rfl,Bf,p0,ah,_,_,rfl,rfl,.inl ⟨ah,ah⟩,hy _ _ ?_ (ae.refl _)⟩⟩;show some (V.int _)=some (V.int _)
  norm_cast
 .rw[gA,ak,j3,fQ (λ x:aV=>nI (x.need*s_ x t))]at h1;have e:(l.map λ x:aV=>nI (x.need*s_ x t))=((l.map λ x:aV=>x.need*s_ x t).map λ n:Nat=>(n:Int)).map V.int:=by rw[bB,bB];rfl
  rw[e]at h1;refine⟨D,_,rfl,aP.of h1,?_⟩;rw[vB,<-oZ];exact k H1 s1
theorem NZ(n:Nat):(k6 n [V.int 0]).flatten=(bf n).map λ _=>nI 0:=by
 induction n with
 |zero=>rfl
 |succ n ih=>
  rw[List.replicate_succ',List.flatten_append,ih,uA,dZ];rfl
theorem RK{n k:Nat}(h:k<n):DO n (k:Int)=some k:=by
 unfold DO;rw[au ah];simp[h]
theorem JD{n j:Nat}(g:Nat ->Nat)(v:Nat)(hj:j<n):((bf n).map λ t=>nI (g t)).set j (nI v)=(bf n).map λ t=>nI (if t=j then v else g t):=by
 refine kn aL λ i h1 h2=>?_
 rw[Ue,fW,fW,mM];by_cases e:j=i
 .rw[au e,au e.symm]
 .rw[ao e,ao (qb e)]
theorem JE{α:Type}{l:List α}{i j:Nat}(d:α)(h:j<i):(l.take i).getD j d=l.getD j d:=by
 rw[aG,aG,SX h]
theorem JF{l:List aV}{i:Nat}(hi:i<l.length):l.take (i+1)=l.take i++[l.getD i a0]:=by
 rw[mz,ay hi,aG,ay hi];rfl
def HI(B:CB):Sp:=λ vs H Q _=>∃(ka:Addr)(l:List aV)(bs:List Addr)(last:Nat),vs=[.ref ka,nI last]/\bU (mN B l) H ka bs/\bs.length=l.length/\Pw l/\last<=27720/\
 ∀p H',H p=none ->ae H H' ->H' p=some (.aD ((bf (last+1)).map λ t=>nI (dH l t))) ->Q (.ref p) H'
theorem N0(F:bi K "needs_by_due_time" i_ f fd)(T:Txt K mg C)(TB:iw K B):bj P w K mg base CX0 1 f fd [tO,"last"] (HI B):=by
 refine F.ok [tO,"last","needs","kind","due"] λ b_ A aA s H vs Q E hr h nd=>?_
 obtain⟨ka,l,bs,last,rfl,R,j3,ok,N1,k⟩:=h;refine⟨_,ab (bg (i:=2) nd rfl (aH rfl) (bG Vq (a_ (aO am)) (bG eh (pv 1) am)))
  (ab (ee eY rfl (bF (pv 0)) (aU (i:=3) nd rfl (aH rfl))
   (af (ee eY rfl (yK rfl (T.bu _ zq_dk) (jG (ai (pv 3) rfl) (bG eh (pv 1) am) (ai (pv 3) rfl))) (aU (i:=4) nd rfl (aH rfl))
    (af (zI (pv 2) (pv 4) wq (ai (pv 3) rfl) vN qM)))))
  (af (aw (pv 2)))),?_⟩
 try dsimp only [bx,Cx.dJ]
 refine⟨bE,λ q hq=>⟨_,rfl,_,_,rfl,rfl,q,_,_,rfl,rfl,aa,ah,ah,?_,λ na iR=>?_⟩⟩
 .show 1*((last:Int)+1).toNat<=2^24;omega
 have sq:=ae.new (o:=.aD [V.int 0]) hq;rw[show((last:Int)+1).toNat=last+1 by omega,NZ];have e0:((bf (last+1)).map λ _=>nI 0)=(bf (last+1)).map λ t=>nI (dH (l.take 0) t):=by
  rw[List.take_zero];rfl
 rw[e0];obtain⟨H1,HJ⟩:=bS (aS (aS H q (.aD [V.int 0])) na (.aD ((bf (last+1)).map λ t=>nI (dH (l.take 0) t))));have abd:H na=none:=ae.bN sq iR;have s1:ae H H1:=by rw[HJ];exact sq.trans (ae.new iR)
 have h1:H1 na=some (.aD ((bf (last+1)).map λ t=>nI (dH (l.take 0) t))):=by rw[HJ];exact aa
 rw[<-HJ];refine⟨_,rfl,ka,rfl,⟨_,aP.of (s1 _ _ R.aD)⟩,?_⟩;refine eV (K:=K) (a:=ka) (xs:=bs.map V.ref) (λ i σ H'=>ae H H'/\H' na=some (.aD ((bf (last+1)).map λ t=>nI (dH (l.take i) t)))/\∃x y,σ=[some (.ref ka),some (nI last),some (.ref na),x,y]) ⟨s1,h1,⟨_,_,rfl⟩⟩ (λ i σ H' _ p=>aP.of (p.1 _ _ R.aD)) (λ i x σ H2 hx p=>?_) (λ σ H2 p=>?_)
 .obtain⟨s2,h2,x0,y0,rfl⟩:=p;have hi:i<bs.length:=by
   have:=(gM.mp hx).1;rwa[ak]at this
  rw[aT,ay hi]at hx;cases hx;obtain⟨_,dx,ho⟩:=R.at_ i bs[i] (ay hi);have jF:i<l.length:=by omega
  obtain⟨n0,n1,p0,p1,d0,d1⟩:=ok.get jF;obtain⟨xk,hxk⟩:=bS (l.getD i a0);have vk:∀{H':Hp},ae H H' ->H' bs[i]=some (.bD B.cK dx (gE xk.period xk.need xk.due)):=λ{H'} sh=>by
   rw[hxk];exact sh _ _ ho
  rw[<-hxk]at n0 n1 p0 p1 d0 d1;have hR:=YQ.up (i:=xk.due) (j:=last+1) (c:=xk.period) p0 ah ah ah;obtain⟨cn,Ls⟩:=bS ((last+1 -xk.due+xk.period -1)/xk.period);rw[<-Ls]at hR;refine⟨_,rfl,rF (vk s2) TB.AG (TB.nK _ zq_dk) rfl ⟨_,rfl,_,_,rfl,rfl,_,rfl,rF (vk s2) TB.AG (TB.nK _ zq_dk) rfl ⟨_,_,_,cn,rfl,(by exact_mod_cast hR),?_⟩⟩⟩;refine Er (λ j σ H'=>ae H H'/\H' na=some (.aD ((bf (last+1)).map λ t=>nI (fm (dH (l.take i)) xk j t)))/\∃y,σ=[some (.ref ka),some (nI last),some (.ref na),some (.ref bs[i]),y]) ⟨s2,?_,⟨_,rfl⟩⟩ (λ j σ H3 hj p=>?_) (λ σ H3 p=>?_)
  .rw[h2];congr 2;refine gu λ t _=>?_
   rw[AA]
  .obtain⟨s3,h3,y1,rfl⟩:=p;have i9:xk.due+j*xk.period<last+1:=by
    rw[Ls]at hj;have:(j+1)*xk.period<=last+1 -xk.due+xk.period -1:=(NA p0).mp hj;rw[Hg]at this;omega
   have ei:((xk.due:Nat):Int)+((j:Nat):Int)*((xk.period:Nat):Int)=((xk.due+j*xk.period:Nat):Int):=by norm_cast
   have jY:ml ((bf (last+1)).map λ t=>nI (fm (dH (l.take i)) xk j t)) ((xk.due+j*xk.period:Nat):Int)=some (nI (fm (dH (l.take i)) xk j (xk.due+j*xk.period))):=by
    refine cG ?_;rw[aT,CS i9];rfl
   have hix:DO ((bf (last+1)).map λ t=>nI (fm (dH (l.take i)) xk j t)).length ((xk.due+j*xk.period:Nat):Int)=some (xk.due+j*xk.period):=by
    rw[ak,ko];exact RK i9
   show _;rw[ei];refine⟨_,rfl,_,rfl,na,_,_,_,rfl,rfl,aP.of h3,jY,_,rfl,rF (vk s3) TB.AG (TB.nK _ zq_dk) rfl ⟨_,_,rfl,rfl,na,_,_,_,rfl,rfl,h3,hix,?_⟩⟩;refine⟨λ b o e=>?_,?_,⟨_,rfl⟩⟩
   .rw[ag (λ z=>by rw[z,abd]at e;cases e)];exact s3 b o e
   .rw[aa];have es:V.int (((fm (dH (l.take i)) xk j (xk.due+j*xk.period):Nat):Int)+((xk.need:Nat):Int))=nI (fm (dH (l.take i)) xk j (xk.due+j*xk.period)+xk.need):=by
     show V.int _=V.int _
     norm_cast
    rw[es,JD _ _ i9];congr 2;refine gu λ t _=>?_
    rw[AB p0];by_cases z:t=xk.due+j*xk.period
    .rw[au z,au z,z]
    .rw[ao z,ao z]
  .obtain⟨s3,h3,y1,rfl⟩:=p;refine⟨s3,?_,⟨_,_,rfl⟩⟩;rw[h3];congr 2;refine gu λ t ht=>?_
   have ht':t<=last:=Uh (gB.mp ht);rw[JF jF,<-hxk,Dc (last:=last) p0 ?_ ht'];rw[Ls];have:=Nw (last+1 -xk.due+xk.period -1) xk.period;have hm:=TZ (last+1 -xk.due+xk.period -1) p0;rw[j9]at this;omega
 .obtain⟨s2,h2,x0,y0,rfl⟩:=p;rw[ak,j3,km]at h2;exact⟨_,rfl,k na H2 abd s2 h2⟩
def HK(B:CB):Sp:=λ vs H Q _=>∃(ka:Addr)(l:List aV)(bs:List Addr),vs=[.ref ka,nI (ig l)]/\bU (mN B l) H ka bs/\bs.length=l.length/\Pw l/\
 (N2 l=none ->∀H',ae H H' ->Q .bu H')/\∀t,N2 l=some t ->qs H [(t:Int),(oG l t:Int)] Q
theorem N3(F:bi K "first_overload" lw f fd)(T:Txt K mg C)(D1:cF P w K mg base "needs_by_due_time" [tO,"last"] 1 (HI B)):bj P w K mg base CX0 2 f fd [tO,"last"] (HK B):=by
 refine F.ok [tO,"last","demand","now","need"] λ b_ A aA s H vs Q E hr h nd=>?_
 obtain⟨ka,l,bs,rfl,R,j3,ok,k0,k1⟩:=h;refine⟨_,ab (bg (i:=2) nd rfl (aH rfl) am)
  (ab (ee eY rfl (zZ rfl (T.bu _ zq_dk) (aO (al D1 hr rfl (bA (pv 0) (pv 1))))) (sC rfl (eU (aU (i:=3) nd rfl (aH rfl)) (eU (aU (i:=4) nd rfl (aH rfl)) oS)))
   (ab (D_ (i:=2) nd rfl (aH rfl) (pv 4) vN) (af (br (aI kZ (pv 2) (pv 3) (aR _)) (af (aw (a_ (bA (pv 3) (pv 2))))) aK))))
  (af (aw fC))),?_⟩
 try dsimp only [bx,Cx.dJ]
 have N1:=(ok.lcm l.length).2;rw[km]at N1;have ac9:∀x∈l,0<x.period:=λ x hx=>(ok.all x hx).2.2.1
 refine⟨_,rfl,_,rfl,ka,l,bs,_,rfl,R,j3,ok,N1,λ na H1 iR s1 h1=>?_⟩;refine⟨na,_,rfl,aP.of h1,Cj (K:=K) (a:=na) (xs:=(bf (ig l+1)).map λ t=>nI (dH l t)) (λ i σ H'=>ae H1 H'/\(∃x y,σ=[some (.ref ka),some (nI (ig l)),some (nI (pre l i)),x,y])/\∀s,s<i ->¬s<oG l s) ⟨ae.refl _,⟨_,_,rfl⟩,λ s hs=>absurd hs (zk _)⟩ (λ i σ H' _ p=>aP.of (p.1 _ _ h1)) (λ i x Tp σ H' hx p hT=>?_) (λ σ H' p=>?_)⟩
 .obtain⟨s2,⟨u1,u2,rfl⟩,Dj⟩:=p;have jF:i<ig l+1:=by
   have:=(gM.mp hx).1;rwa[ak,ko]at this
  rw[aT,CS jF]at hx;cases hx;have s3:=ae.new (o:=.fc [.int (i:Nat),nI (dH l i)]) hT;refine⟨Tp,_,rfl,e9.of aa,rfl,_,_,rfl,_,_,rfl,rfl,?_⟩;refine⟨_,rfl,_,rfl,_,_,rfl,rfl,?_⟩;have es:V.int (((pre l i:Nat):Int)+((dH l i:Nat):Int))=nI (oG l i):=by
   rw[<-Ny ac9 i];show V.int _=V.int _
   norm_cast
  refine⟨_,rfl,_,rfl,_,_,es,rfl,_,rfl,?_⟩;by_cases hd:i<oG l i
  .refine gk (bO (show((i:Nat):Int)<((oG l i:Nat):Int) by omega)) ?_;refine⟨_,rfl,_,rfl,eM,λ q hq=>?_⟩;have sz:=s1.trans (s2.trans s3);refine k1 i (Jv ah hd Dj) q _ (ae.bN sz hq) (sz.trans (ae.new hq)) ?_;rw[aa,es];rfl
  .refine gg (gh (show¬((i:Nat):Int)<((oG l i:Nat):Int) by omega)) ?_;refine⟨s2.trans s3,⟨_,_,by rw[es];rfl⟩,λ s hs=>?_⟩;by_cases z:s=i
   .rw[z];exact hd
   .exact Dj s ah
 .obtain⟨s2,⟨u1,u2,rfl⟩,Dj⟩:=p;rw[ak,ko]at Dj;exact k0 (Jw λ s hs=>Dj s ah) H' (s1.trans s2)
def N4(B:CB):Sp:=λ vs H Q _=>∃(ka:Addr)(l:List aV)(bs:List Addr)(i:Nat),vs=[.ref ka,nI i]/\bU (mN B l) H ka bs/\bs.length=l.length/\Pw l/\i<l.length/\
 (N5 l i=none ->∀H',ae H H' ->Q .bu H')/\∀r,N5 l i=some r ->∀H',ae H H' ->Q (nI r) H'
theorem RL(F:bi K "response_of" kJ f fd)(T:Txt K mg C)(TB:iw K B)(D1:cF P w K mg base "divided_up" ["number","divisor"] 1 Fq):bj P w K mg base CX0 2 f fd [tO,"place"] (N4 B):=by
 refine F.ok [tO,"place","own","taken","asked","kind"] λ b_ A aA s H vs Q E hr h nd=>?_
 obtain⟨ka,l,bs,i,rfl,R,j3,ok,hi,k0,k1⟩:=h;refine⟨_,ab (bg (i:=2) nd rfl (aH rfl) (bK be (pv 0) (pv 1) (λ _ _=>rfl)))
  (ab (bg (i:=3) nd rfl (Gu rfl) (ai (pv 2) rfl))
  (af (nu eY (cx tS)
   (ab (bg (i:=4) nd rfl (aH rfl) (bG eh (ai (pv 2) rfl) (aY (zV rfl) rfl (T.bu _ zq_dk) (show bootBuiltins "sum"=some (.builtin "sum") by decide+kernel)
    (dE (iL (own:=[("kind",5)]) (tt:=jE) (te:=tU (rI KG λ i j=>.int (i*j)) (gN K (bQ 5) "need") (tCall Fq [] E0 (cB (bQ 3) (cB (gN K (bQ 5) "period") ik)))) rfl nd (bF (nE qN (pv 0) Gm (j8 (pv 1)))) (bP (by show gW [tO,"place","own","taken","asked","kind"] (aJ kJ) _ _=true;decide+kernel))
     (λ _ _ _ _ _=>by exact aU (i:=5) nd rfl (aH rfl)) (λ _ _ _ _ _=>by exact di) (λ _ _ _ _ _=>by exact bG sD (ai (pv 5) rfl) (al D1 hr rfl (bA (pv 3) (ai (pv 5) rfl))))) il))))
   (ab (br (aI kZ (pv 4) (ai (pv 2) rfl) (aR _)) (af (aw fC)) aK)
   (ab (br (aI dM (pv 4) (pv 3) (aR _)) (af (aw (pv 3))) aK)
   (af (bg (i:=3) nd rfl (Gu rfl) (pv 4))))))))),?_⟩
 try dsimp only [bx,Cx.dJ]
 have h6:=ok.len;obtain⟨x,hx⟩:=bS (l.getD i a0);obtain⟨n0,n1,p0,p1,d0,d1⟩:=ok.get hi;rw[<-hx]at n0 n1 p0 p1 d0 d1;have hib:i<bs.length:=by omega
 obtain⟨_,dx,ho⟩:=R.at_ i bs[i] (ay hib);have vk:∀{H':Hp},ae H H' ->H' bs[i]=some (.bD B.cK dx (gE x.period x.need x.due)):=λ{H'} sh=>by
  rw[hx];exact sh _ _ ho
 refine⟨_,rfl,_,rfl,ka,_,_,_,rfl,rfl,aP.of R.aD,cG (j:=i) (by rw[aT,ay hib];rfl),?_⟩;refine⟨_,rfl,rF (vk (ae.refl H)) TB.AG (TB.nK _ zq_dk) rfl ?_⟩;have hxd:(l.getD i ⟨1,0,0⟩)=x:=hx.symm;refine⟨λ m σ H'=>∃(n r:Nat)(u v:Option V),gz l i n r/\r<=12/\m=13 -r/\ae H H'/\σ=[some (.ref ka),some (nI i),some (.ref bs[i]),some (nI r),u,v],⟨_,_,x.need,_,_,(by have:=gz.init l i;rw[hxd]at this;exact this),n1,rfl,ae.refl H,rfl⟩,λ m σ H1 W=>?_⟩;obtain⟨n,r,u,v,I,r12,rfl,s1,rfl⟩:=W;refine⟨_,rfl,gk rfl ⟨λ σ' H'=>∃m',m'<13 -r/\∃(n r:Nat)(u v:Option V),gz l i n r/\r<=12/\m'=13 -r/\ae H H'/\σ'=[some (.ref ka),some (nI i),some (.ref bs[i]),some (nI r),u,v],λ _ _ h=>h,?_⟩⟩;refine⟨_,rfl,rF (vk s1) TB.AG (TB.nK _ zq_dk) rfl ⟨_,rfl,_,rfl,_,rfl,ka,_,rfl,aP.of (s1 _ _ R.aD),λ sa hsa=>?_⟩⟩;rw[NV,<-Hu];have s2:=ae.new (o:=.aD ((bs.take i).map V.ref)) hsa;have mZ:=s1.trans s2;refine⟨sa,rfl,⟨_,aP.of aa⟩,λ D hD=>?_⟩;have hbt:(bs.take i).length=i:=by rw[k7];omega
 refine d_ (cu (aP.of aa)) (λ j=>some (nI ((r+(l.getD j a0).period -1)/(l.getD j a0).period*(l.getD j a0).need))) hD (by rw[ak,hbt];omega) (λ j y H3 H4 Qy Qn hj s3 eG hy hn=>?_) (λ H3 s3 h3=>?_)
 .obtain⟨hy0,rfl⟩:=eG;rw[ak,hbt]at hj;have Xw:j<bs.length:=by omega
  rw[aT,SX hj,ay Xw]at hy0;cases hy0;obtain⟨_,dy,hoy⟩:=R.at_ j bs[j] (ay Xw);have abe:=(mZ.trans s3) _ _ hoy;obtain⟨m0,m1,q0,q1,_⟩:=ok.get (show j<l.length by omega);refine⟨rfl,_,rfl,rF abe TB.AG (TB.nK _ zq_dk) rfl ⟨_,rfl,_,rfl,rF abe TB.AG (TB.nK _ zq_dk) rfl ⟨r,(l.getD j a0).period,rfl,q0,ah,_,_,rfl,rfl,.inl ⟨ah,ah⟩,hy _ _ ?_ (ae.refl _)⟩⟩⟩;show some (V.int _)=some (V.int _);rw[j9]
  norm_cast
 .rw[gA,ak,hbt]at h3;have e:((bf i).map λ j=>nI ((r+(l.getD j a0).period -1)/(l.getD j a0).period*(l.getD j a0).need))=(((l.take i).map λ h:aV=>(r+h.period -1)/h.period*h.need).map λ n:Nat=>(n:Int)).map V.int:=by
   rw[bB,bB];have:=fQ (λ h:aV=>nI ((r+h.period -1)/h.period*h.need)) (l.take i) a0;rw[k7,CZ ah]at this;refine Eq.trans (gu λ j hj=>?_) this;rw[JE a0 (gB.mp hj)]
  rw[e]at h3;refine⟨D,_,rfl,aP.of h3,_,_,rfl,rfl,?_⟩;have ie:=mZ.trans s3;rw[vB];have es:V.int (((x.need:Nat):Int)+((N6 ((l.take i).map λ h:aV=>(r+h.period -1)/h.period*h.need):Nat):Int))=nI (u4 l i r):=by
   unfold u4;rw[hxd];show V.int _=V.int _
   norm_cast
  have XV:(λ i j:Int=>V.int (i+j)) ((x.need:Nat):Int) ((N6 ((l.take i).map λ h:aV=>(r+h.period -1)/h.period*h.need):Nat):Int)=nI (u4 l i r):=es;rw[XV];refine⟨_,rfl,_,rfl,rF (vk ie) TB.AG (TB.nK _ zq_dk) rfl ⟨_,_,rfl,rfl,_,rfl,?_⟩⟩;by_cases c1:x.due<u4 l i r
  .refine gk (bO (show((x.due:Nat):Int)<((u4 l i r:Nat):Int) by omega)) ?_;exact k0 (I.none (by rw[hxd];exact c1)) H3 ie
  .refine gg (gh (show¬((x.due:Nat):Int)<((u4 l i r:Nat):Int) by omega)) ?_;refine⟨_,rfl,_,rfl,rfl,_,rfl,?_⟩;rw[gf];by_cases c2:u4 l i r=r
   .refine gk (bO (show((u4 l i r:Nat):Int)=(r:Int) by omega)) ?_;exact⟨_,rfl,k1 r (I.some (by rw[hxd];exact c1) c2) H3 ie⟩
   .refine gg (gh (show¬((u4 l i r:Nat):Int)=(r:Int) by omega)) ?_;obtain⟨n',I',dC⟩:=I.step (by rw[hxd];exact c1) c2;exact⟨_,rfl,13 -u4 l i r,ah,n',u4 l i r,_,_,I',ah,rfl,ie,rfl⟩
theorem _root_.L2.bU.fU{O O':Nat ->Addr ->HO}{H:Hp}{D b dx:Addr}{bs:List Addr}{i:Nat}(R:bU O H D bs)(hb:bs[i]?=some b)(hO:∀j dx,j≠i ->O' j dx=O j dx):bU O' (aS H b (O' i dx)) D bs:=by
 have nb:b≠D:=(R.at_ i b hb).1;refine⟨by rw[ag nb.symm];exact R.aD,R.nd,λ j c e=>?_⟩;obtain⟨n,d,h⟩:=R.at_ j c e;refine⟨n,?_⟩;by_cases z:j=i
 .subst z;rw[hb]at e;cases e;exact⟨dx,aa⟩
 .refine⟨d,?_⟩;have ne:c≠b:=λ q=>z ((List.getElem?_inj (gM.mp e).1 R.nd).mp (by rw[e,hb,q]))
  rw[ag ne,hO j d z];exact h
def PN:List Str:=["kind","beginning","done","left","longest"]
theorem Up:PN.Nodup:=zq_dk
def AJ(kr:Addr)(b:Nat)(s:PS):List V:=[.ref kr,nI b,nI s.done,nI s.left,nI s.longest]
def ey(kr:Addr)(b:Nat)(s:PS):List (Str×V):=PN.zip (AJ kr b s)
theorem gy(kr:Addr)(b:Nat)(s:PS){k:Nat}{f:Str}{v:V}(h1:PN[k]?=some f)(h2:(AJ kr b s)[k]?=some v):(ey kr b s).lookup f=some v:=lR Up h1 h2
theorem rX(kr:Addr)(b:Nat)(s s':PS){k:Nat}{f:Str}{v:V}(h1:PN[k]?=some f)(h2:(AJ kr b s).set k v=AJ kr b s')(hk:k<5:=by decide):eE f v (ey kr b s)=ey kr b s':=by
 unfold ey;rw[vy Up h1 (by exact hk),h2]
theorem RM{H:Hp}{a k c1 d1 c2 d2:Addr}{kr:Addr}{b:Nat}{s:PS}{p n d:Int}(h1:H a=some (.bD c1 d1 (ey kr b s)))(h2:H k=some (.bD c2 d2 (gE p n d))):a≠k:=by
 refine me h1 h2 λ z=>?_
 injection z with _ _ z3
 have z4:=congrArg nA z3;exact absurd z4 (by show¬(5:Nat)=3;decide)
def AK(B:CB):Sp:=λ vs H Q _=>∃(x kr dx dk:Addr)(b:Nat)(y:aV),vs=[.ref x,.ref kr,nI b]/\H x=some (.bD B.cP dx [])/\H kr=some (.bD B.cK dk (gE y.period y.need y.due))/\Q .bu (aS H x (.bD B.cP dx (ey kr b ⟨0,y.need,0⟩)))
theorem N7(F:v7 K "__init__" "Progress.__init__" mE f fd)(TB:iw K B):bj P w K mg base CX0 1 f fd ["self","kind","beginning"] (AK B):=by
 refine F.ok ["self","kind","beginning"] λ b_ A aA s H vs Q E hr h nd=>?_
 obtain⟨x,kr,dx,dk,b,y,rfl,hx,hk,k⟩:=h;have nk:kr≠x:=me hk hx λ z=>by
  injection z with _ _ z3
  cases z3
 refine⟨_,ab (aN (pv 0) (pv 1) rfl) (ab (aN (pv 0) (pv 2) rfl) (ab (aN (pv 0) am rfl) (ab (aN (pv 0) (ai (pv 1) rfl) rfl) (af (aN (pv 0) am rfl))))),?_⟩
 try dsimp only [bx,Cx.dJ]
 refine⟨_,rfl,_,rfl,wF hx TB.Dg (TB.nP _ zq_dk) bR ?_⟩;rw[eS zq_dk];refine⟨_,rfl,_,rfl,wF aa TB.Dg (TB.nP _ zq_dk) bR ?_⟩;rw[eS (show("beginning":Str)∉(["kind"]:List Str) by decide+kernel),bn];refine⟨_,rfl,wF aa TB.Dg (TB.nP _ zq_dk) bR ?_⟩;rw[eS (show("done":Str)∉(["kind","beginning"]:List Str) by decide+kernel),bn];refine⟨_,rfl,kr,B.cK,dk,_,_,rfl,(by rw[ag nk];exact hk),TB.AG,TB.nK _ zq_dk,rfl,_,rfl,wF aa TB.Dg (TB.nP _ zq_dk) bR ?_⟩;rw[eS (show("left":Str)∉(["kind","beginning","done"]:List Str) by decide+kernel),bn];refine⟨_,rfl,wF aa TB.Dg (TB.nP _ zq_dk) bR ?_⟩;rw[eS (show("longest":Str)∉(["kind","beginning","done","left"]:List Str) by decide+kernel),bn];exact k
def N8(B:CB):Sp:=λ vs H Q _=>∃(a kr dx dk:Addr)(b:Nat)(y:aV)(s:PS),vs=[.ref a]/\H a=some (.bD B.cP dx (ey kr b s))/\H kr=some (.bD B.cK dk (gE y.period y.need y.due))/\y.period<=1000/\Q (nI (ck (y,b) s)) H
theorem Wt(F:bi K "oldest_coming" mF f fd)(TB:iw K B):bj P w K mg base CX0 1 f fd ["progress"] (N8 B):=by
 refine F.ok ["progress"] λ b_ A aA s H vs Q E hr h nd=>?_
 obtain⟨a,kr,dx,dk,b,y,st,rfl,ha,hk,hp,k⟩:=h;refine⟨_,af (aw (bG eh (ai (pv 0) rfl) (bG sD (ai (pv 0) rfl) (ai (ai (pv 0) rfl) rfl)))),?_⟩
 try dsimp only [bx,Cx.dJ]
 refine⟨_,rfl,a,B.cP,dx,_,_,rfl,ha,TB.Dg,TB.nP _ zq_dk,gy _ _ _ (k:=1) rfl rfl,_,rfl,a,B.cP,dx,_,_,rfl,ha,TB.Dg,TB.nP _ zq_dk,gy _ _ _ (k:=2) rfl rfl,
  _,rfl,a,B.cP,dx,_,_,rfl,ha,TB.Dg,TB.nP _ zq_dk,gy _ _ _ (k:=0) rfl rfl,kr,B.cK,dk,_,_,rfl,hk,TB.AG,TB.nK _ zq_dk,rfl,_,_,rfl,rfl,.inr ⟨ah,ah⟩,_,_,rfl,rfl,?_⟩
 have e:((b:Int)+(st.done:Int)*(y.period:Int))=((ck (y,b) st:Nat):Int):=by
  unfold ck
  norm_cast
 show Q (V.int ((b:Int)+(st.done:Int)*(y.period:Int))) H;rw[e];exact k
def N9(B:CB):Sp:=λ vs H Q _=>∃(a kr dx dk:Addr)(b t:Nat)(y:aV)(s:PS),vs=[.ref a,nI t]/\H a=some (.bD B.cP dx (ey kr b s))/\H kr=some (.bD B.cK dk (gE y.period y.need y.due))/\y.period<=1000/\1<=s.left/\ck (y,b) s<=t/\Q .bu (aS H a (.bD B.cP dx (ey kr b (j4 (y,b) t s))))
theorem RN(F:bi K "run_one_tick" mG f fd)(T:Txt K mg C)(TB:iw K B)(D1:cF P w K mg base "oldest_coming" ["progress"] 1 (N8 B)):bj P w K mg base CX0 2 f fd ["progress","now"] (N9 B):=by
 refine F.ok ["progress","now"] λ b_ A aA s H vs Q E hr h nd=>?_
 obtain⟨a,kr,dx,dk,b,t,y,st,rfl,ha,hk,hp,hl,ho,k⟩:=h;have nk:a≠kr:=RM ha hk;refine⟨_,ab (dh (pv 0) am KR)
  (af (br (aI dM (ai (pv 0) rfl) am (aR _))
   (ab (aN (pv 0) (aY (k4 rfl) rfl (T.bu _ zq_dk) (show bootBuiltins "max"=some (.builtin "max") by decide+kernel) (bA (ai (pv 0) rfl) (bG gU (bG eh (pv 1) am) (al D1 hr rfl (aO (pv 0)))))) rfl)
   (ab (dh (pv 0) am iZ)
   (af (aN (pv 0) (ai (ai (pv 0) rfl) rfl) rfl)))) aK)),?_⟩
 try dsimp only [bx,Cx.dJ]
 refine⟨_,rfl,rF ha TB.Dg (TB.nP _ zq_dk) (gy _ _ _ (k:=3) rfl rfl) ⟨_,_,rfl,rfl,dx,_,ha,bR,?_⟩⟩;have e1:eE ("left":Str) (V.int ((st.left:Int) -1)) (ey kr b st)=ey kr b {st with left:=st.left -1}:=by
  refine rX kr b st _ (k:=3) rfl ?_;show [V.ref kr,nI b,nI st.done,V.int ((st.left:Int) -1),nI st.longest]=[V.ref kr,nI b,nI st.done,V.int ((st.left -1:Nat):Int),nI st.longest];rw[show((st.left:Int) -1)=((st.left -1:Nat):Int) by omega]
 rw[e1];obtain⟨s1,Pu⟩:∃s1:PS,s1={st with left:=st.left -1}:=⟨_,rfl⟩;rw[<-Pu];have l1:s1.left=st.left -1:=by rw[Pu]
 have g1:s1.longest=st.longest:=by rw[Pu]
 have d1:s1.done=st.done:=by rw[Pu]
 refine⟨_,rfl,rF aa TB.Dg (TB.nP _ zq_dk) (gy _ _ _ (k:=3) rfl rfl) ⟨rfl,_,rfl,?_⟩⟩;rw[gf];unfold j4 at k;by_cases c:st.left -1=0
 .rw[au c]at k;refine gk (bO (show((s1.left:Nat):Int)=0 by omega)) ?_;have Bf:ck (y,b) s1=ck (y,b) st:=by unfold ck;rw[d1]
  have hk1:aS H a (.bD B.cP dx (ey kr b s1)) kr=some (.bD B.cK dk (gE y.period y.need y.due)):=by rw[ag nk.symm];exact hk
  refine⟨_,rfl,rF aa TB.Dg (TB.nP _ zq_dk) (gy _ _ _ (k:=4) rfl rfl) ⟨_,rfl,_,_,rfl,rfl,_,rfl,a,kr,dx,dk,b,y,s1,rfl,aa,hk1,hp,_,_,rfl,rfl,_,_,rfl,?_⟩⟩;refine⟨_,rfl,wF aa TB.Dg (TB.nP _ zq_dk) bR ?_⟩;have e2:eE ("longest":Str) (V.int (if((t:Int)+1 -((ck (y,b) s1:Nat):Int))>((s1.longest:Nat):Int)then((t:Int)+1 -((ck (y,b) s1:Nat):Int))else((s1.longest:Nat):Int))) (ey kr b s1)=ey kr b {s1 with longest:=max st.longest (t+1 -ck (y,b) st)}:=by
   refine rX kr b s1 _ (k:=4) rfl ?_;show [V.ref kr,nI b,nI s1.done,nI s1.left,V.int _]=[V.ref kr,nI b,nI s1.done,nI s1.left,V.int ((max st.longest (t+1 -ck (y,b) st):Nat):Int)];have ez:(if((t:Int)+1 -((ck (y,b) s1:Nat):Int))>((s1.longest:Nat):Int)then((t:Int)+1 -((ck (y,b) s1:Nat):Int))else((s1.longest:Nat):Int))=((max st.longest (t+1 -ck (y,b) st):Nat):Int):=by
    rw[Bf,g1];generalize ck (y,b) st=o at ho⊢;by_cases c2:st.longest<t+1 -o
    .rw[au ah,Nat.max_eq_right ah];omega
    .rw[ao ah,Nat.max_eq_left ah]
   rw[ez]
  rw[e2,bn];obtain⟨s2,Ip⟩:∃s2:PS,s2={s1 with longest:=max st.longest (t+1 -ck (y,b) st)}:=⟨_,rfl⟩;rw[<-Ip];refine⟨_,rfl,rF aa TB.Dg (TB.nP _ zq_dk) (gy _ _ _ (k:=2) rfl rfl) ⟨_,_,rfl,rfl,dx,_,aa,bR,?_⟩⟩;have e3:eE ("done":Str) (V.int ((s2.done:Int)+1)) (ey kr b s2)=ey kr b {s2 with done:=s2.done+1}:=rX kr b s2 _ (k:=2) rfl rfl;rw[e3,bn];obtain⟨s3,YM⟩:∃s3:PS,s3={s2 with done:=s2.done+1}:=⟨_,rfl⟩;rw[<-YM];have hk3:aS H a (.bD B.cP dx (ey kr b s3)) kr=some (.bD B.cK dk (gE y.period y.need y.due)):=by rw[ag nk.symm];exact hk
  refine⟨_,rfl,rF aa TB.Dg (TB.nP _ zq_dk) (gy _ _ _ (k:=0) rfl rfl) ⟨kr,B.cK,dk,_,_,rfl,hk3,TB.AG,TB.nK _ zq_dk,rfl,_,rfl,wF aa TB.Dg (TB.nP _ zq_dk) bR ?_⟩⟩;have e4:eE ("left":Str) (nI y.need) (ey kr b s3)=ey kr b {s3 with left:=y.need}:=rX kr b s3 _ (k:=3) rfl rfl;rw[e4,bn];have e5:({s3 with left:=y.need}:PS)=⟨st.done+1,y.need,max st.longest (t+1 -ck (y,b) st)⟩:=by rw[YM,Ip,Pu]
  rw[e5];exact k
 .rw[ao c]at k;refine gg (gh (show¬((s1.left:Nat):Int)=0 by omega)) ?_;rw[Pu];exact k
def mO(B:CB)(u5:List Addr)(ks:List (aV×Nat))(S:List PS):Nat ->Addr ->HO:=λ j dx=>.bD B.cP dx (ey (u5.getD j 0) (kd ks j).2 (sd S j))
structure adb(ks:List (aV×Nat)):Prop where
 len:ks.length<=6
 all:∀x∈ks,0<x.1.need/\x.1.need<=12/\0<x.1.period/\x.1.period<=12
def HL(B:CB):Sp:=λ vs H Q _=>∃(ka ba:Addr)(ks:List (aV×Nat))(u5:List Addr)(N:Nat),vs=[.ref ka,.ref ba,nI N]/\bU (mN B (ks.map (·.1))) H ka u5/\u5.length=ks.length/\H ba=some (.aD (ks.map λ x=>nI x.2))/\adb ks/\N<=300/\
 ∀p H' ps S,ae H H' ->ps.length=ks.length ->bU (mO B u5 ks S) H' p ps ->(∃acc,qv ks N N S acc) ->Q (.ref p) H'
theorem N_(F:bi K "run_by_ranks" jO f fd)(T:Txt K mg C)(TB:iw K B)(D1:tj P w K mg base "Progress" B.cP ["self","kind","beginning"] 1 (AK B))(D2:cF P w K mg base "oldest_coming" ["progress"] 1 (N8 B))(D3:cF P w K mg base "run_one_tick_kinds" ["progress","now"] 2 (N9 B)):
  bj P w K mg base CX0 3 f fd [tO,"beginnings","count"] (HL B):=by
 refine F.ok [tO,"beginnings","count","ranks","kind","beginning","now","progress"] λ b_ A aA s H vs Q E hr h nd=>?_
 obtain⟨ka,ba,ks,u5,N,rfl,R,hkl,hba,ok,hN,k⟩:=h;refine⟨_,ab (gq (i:=3) (own:=[("kind",4),("beginning",5)]) (g:=PD K 2 (vM (nj 4) (vM (nj 5) PB))) (tt:=jE) (te:=qI B.cP (AK B) [] E0 (cB (bQ 4) (cB (bQ 5) ik))) rfl nd rfl rfl (iA rfl rfl rfl zq_dk) (Hv rfl (T.bu _ zq_dk) (bA (pv 0) (pv 1))) (bP (by show gW [tO,"beginnings","count","ranks","kind","beginning","now","progress"] (aJ jO) _ _=true;decide+kernel))
   (λ _ _ _ _ _=>by exact sC rfl (eU (aU (i:=4) nd rfl (aH rfl)) (eU (aU (i:=5) nd rfl (aH rfl)) oS))) (λ _ _ _ _ _=>by exact di) (λ _ _ _ _ _=>by exact g_ D1 (hr.bI zq_dc) rfl (bA (pv 4) (pv 5))))
  (ab (ee eY rfl (oT rfl (T.bu _ zq_dk) (aO (pv 2))) (aU (i:=6) nd rfl (aH rfl))
   (af (ee eY rfl (bF (pv 3)) (aU (i:=7) nd rfl (aH rfl))
    (af (br (aI qH (al D2 (hr.bI zq_dc) rfl (aO (pv 7))) (pv 6) (aR _)) (ab (bz (al D3 hr rfl (bA (pv 7) (pv 6)))) (af Ku)) aK)))))
  (af (aw (pv 3)))),?_⟩
 try dsimp only [bx,Cx.dJ]
 have h6:=ok.len;have W:KWF ks:=⟨λ x hx=>(ok.all x hx).2.2.1,λ x hx=>(ok.all x hx).1⟩;have Qz:(u5.map V.ref).length=(ks.map λ x=>nI x.2).length:=by rw[ak,ak,hkl]
 refine⟨_,rfl,_,rfl,ka,ba,_,_,rfl,aP.of R.aD,aP.of hba,λ pa JG=>?_⟩;refine rO (C6 (aP.of R.aD) (aP.of hba) Qz) (mO B u5 ks (ks.map λ x=>⟨0,x.1.need,0⟩)) JG (by rw[ak];omega) (λ i x H1 H2 Qy Qn hi s1 eG hy=>?_) (λ H1 ps s1 pc R1 hF=>?_)
 .obtain⟨Tp,y,z,hx,hz,rfl,hT,rfl⟩:=eG;rw[ak]at hi;have Fu:i<ks.length:=by omega
  rw[aT,ay hi]at hx;rw[aT,ay Fu]at hz;cases hx;cases hz;have s2:=ae.new (o:=.fc [V.ref u5[i],nI (ks[i]).2]) hT;obtain⟨_,dk,ho⟩:=R.at_ i u5[i] (ay hi);have ek:(ks.map (·.1)).getD i a0=(kd ks i).1:=by
   unfold kd;rw[aG,aT,aG,ay Fu];rfl
  unfold mN at ho;rw[ek]at ho;refine⟨Tp,_,rfl,e9.of aa,rfl,_,_,rfl,_,_,rfl,rfl,rfl,?_⟩;refine⟨_,rfl,_,rfl,λ x dx hx xl jD=>⟨x,u5[i],dx,dk,(ks[i]).2,(kd ks i).1,rfl,aa,?_,rfl,?_⟩⟩
  .exact iS hx xl _ _ ((s1.trans s2) _ _ ho)
  .refine hy x _ (ae.bN s2 hx) (s2.trans (jB hx xl)) ⟨dx,?_⟩;rw[aa];unfold mO;rw[AD Fu,aG,ay hi];unfold kd;rw[aG,ay Fu];rfl
 rw[ak,hkl]at pc;have Rk1:=R.same s1;refine⟨_,rfl,_,rfl,ah,ah,?_⟩;rw[k9];refine kY (lo:=0) (n:=N) (λ t σ H'=>ae H H'/\∃S acc x4 x5 x6 x7,qv ks N t S acc/\bU (mO B u5 ks S) H' pa ps/\σ=[some (.ref ka),some (.ref ba),some (nI N),some (.ref pa),x4,x5,x6,x7]) ⟨s1,_,_,_,_,_,_,qv.init W N,R1,rfl⟩ (λ t σ H2 ht p=>?_) (λ σ H2 p=>?_)
 .obtain⟨s2,S,acc,x4,x5,x6,x7,I,R2,rfl⟩:=p;have Rk2:=R.same s2;refine⟨_,rfl,pa,rfl,⟨_,aP.of R2.aD⟩,?_⟩;refine eV (K:=K) (a:=pa) (xs:=ps.map V.ref) (λ i σ H'=>H'=H2/\(∃y,σ=[some (.ref ka),some (.ref ba),some (nI N),some (.ref pa),x4,x5,some (.int (0+(t:Int))),y])/\∀j,j<i ->¬ck (kd ks j) (sd S j)<=t) ⟨rfl,⟨_,rfl⟩,λ j hj=>absurd hj (zk _)⟩ (λ i σ H' _ q=>by rw[q.1];exact aP.of R2.aD) (λ i x σ H' hx q=>?_) (λ σ H' q=>?_)
  .obtain⟨rfl,⟨y0,rfl⟩,Dj⟩:=q;have hi:i<ps.length:=by
    have:=(gM.mp hx).1;rwa[ak]at this
   rw[aT,ay hi]at hx;cases hx;have Fu:i<ks.length:=by omega
   have abf:i<u5.length:=by omega
   obtain⟨_,dx,ho⟩:=R2.at_ i ps[i] (ay hi);obtain⟨_,dk,db⟩:=Rk2.at_ i u5[i] (ay abf);have ek:(ks.map (·.1)).getD i a0=(kd ks i).1:=by
    unfold kd;rw[aG,aT,aG,ay Fu];rfl
   unfold mN at db;rw[ek]at db;have ekb:u5.getD i 0=u5[i]:=by rw[aG,ay abf];rfl
   unfold mO at ho;rw[ekb]at ho;obtain⟨_,_,p0,p1⟩:=ok.all _ (kd_mem Fu);refine⟨_,rfl,ps[i],u5[i],dx,dk,(kd ks i).2,(kd ks i).1,sd S i,rfl,ho,db,ah,_,rfl,_,_,rfl,rfl,_,rfl,?_⟩;by_cases hc:ck (kd ks i) (sd S i)<=t
   .refine gk (bO (show((ck (kd ks i) (sd S i):Nat):Int)<=0+(t:Int) by omega)) ?_;refine⟨_,rfl,_,rfl,ps[i],u5[i],dx,dk,(kd ks i).2,t,(kd ks i).1,sd S i,(by rw[NI];rfl),ho,db,ah,(I.dn i Fu).2.2,hc,?_⟩;obtain⟨Wi,I'⟩:=I.run W ht Fu hc Dj;have hF0:H ps[i]=none:=hF _ (gH hi);have hSl:i<S.length:=by rw[I.len];exact Fu
    refine⟨λ b o e=>?_,_,Wi,x4,x5,_,_,I',?_,rfl⟩
    .rw[ag (λ z=>by rw[z,hF0]at e;cases e)];exact s2 b o e
    .have hO:∀j dx,j≠i ->mO B u5 ks (S.set i (j4 (kd ks i) t (sd S i))) j dx=mO B u5 ks S j dx:=λ j dx hj=>by
      have es:sd (S.set i (j4 (kd ks i) t (sd S i))) j=sd S j:=by
       generalize j4 (kd ks i) t (sd S i)=v;unfold sd;rw[aG,o9 (qb hj),<-aG]
      unfold mO;rw[es]
     have eO:(.bD B.cP dx (ey u5[i] (kd ks i).2 (j4 ((kd ks i).1,(kd ks i).2) t (sd S i))):HO)=mO B u5 ks (S.set i (j4 (kd ks i) t (sd S i))) i dx:=by
      have es:sd (S.set i (j4 (kd ks i) t (sd S i))) i=j4 (kd ks i) t (sd S i):=by
       generalize j4 (kd ks i) t (sd S i)=v;unfold sd;rw[aG,qF hSl];rfl
      unfold mO;rw[ekb,es]
     rw[eO];exact R2.fU (ay hi) hO
   .refine gg (gh (show¬((ck (kd ks i) (sd S i):Nat):Int)<=0+(t:Int) by omega)) ?_;refine⟨rfl,⟨_,rfl⟩,λ j hj=>?_⟩;by_cases z:j=i
    .rw[z];exact hc
    .exact Dj j ah
  .obtain⟨rfl,⟨y0,rfl⟩,Dj⟩:=q;rw[ak,pc]at Dj;exact⟨s2,S,acc,_,_,_,_,I.ac8 W ht Dj,R2,rfl⟩
 .obtain⟨s2,S,acc,x4,x5,x6,x7,I,R2,rfl⟩:=p;exact⟨_,rfl,k pa H2 ps S s2 pc R2 ⟨acc,I⟩⟩
theorem _root_.L2.bU.RO{O:Nat ->Addr ->HO}{H:Hp}{D a:Addr}{o:HO}{bs:List Addr}(R:bU O H D bs)(nD:D≠a)(nb:∀b∈bs,b≠a):bU O (aS H a o) D bs:=
 ⟨by rw[ag nD];exact R.aD,R.nd,λ j b e=>let⟨n,dx,h⟩:=R.at_ j b e;⟨n,dx,by rw[ag (nb b (cH e))];exact h⟩⟩
theorem kok{row:List Int}(h:rW row=true):Pw (e8 row):=⟨(l5 h).1,(l5 h).2⟩
def kE(ns row:List Int):List Int:=if c7 kD (.demand row (ns.getD 0 0))=true then(cI kD (.demand row (ns.getD 0 0))).2 else [-2]
def qw(ns row:List Int):List Int:=if rW row=true then(cI kD (.again row)).2 else [-2]
def xq(ns row:List Int):List Int:=if rW row=true then(cI kD (.response row)).2 else [-2]
def kF(ns row:List Int):List Int:=if c7 kD (.ranked row (ns.getD 0 0))=true then(cI kD (.ranked row (ns.getD 0 0))).2 else [-2]
theorem tm{H H1:Hp}{Q:VK}{g:List Int}(s1:ae H H1)(Tb:cj C H)(hg:g=[-2])(k:∀p H',H p=none ->o5 C H H' ->cj C H' ->H' p=some (.aD (g.map V.int)) ->Q (.ref p) H'):∀p,H1 p=none ->Q (.ref p) (aS H1 p (.aD [V.int (-2)])):=λ p hp=>by
 subst hg;exact k p _ (ae.bN s1 hp) (o5.same (s1.trans (ae.new hp))) (Tb.same (s1.trans (ae.new hp))) (by rw[aa];rfl)
theorem JH(F:bi K "demand" Cm f fd)(T:Txt K mg C)(U:cQ K mg)(D0:Jf P w K mg base)(D1:cF P w K mg base "are_kinds" [c_,DX] 4 (xm K))(D2:cF P w K mg base "kinds_of" [c_] 3 (vC K B))(D3:cF P w K mg base "demand_until" [tO,"until"] 2 (Uo B)):
  bj P w K mg base CX0 5 f fd [fb,c_] (kC C 1 kE):=by
 refine F.ok [fb,c_] λ b_ A aA s H vs Q E hr h nd=>?_
 obtain⟨na,ra,ns,row,rfl,iR,iP,qE,ic,Tb,k⟩:=h;obtain⟨tr,yf,hR⟩:=U.row ("DEMAND_RANGES",[(0,10000)]) zq_dk;obtain⟨tk,Uq,hK⟩:=U.row ("KIND_RANGES",[(1,12),(1,12),(1,12)]) zq_dk;refine⟨_,ab (br (PW.pt (tT (dw (cx (al D0 (hr.bI zq_dc) rfl (bA (pv 0) (b9 (v:=.ref tr) rfl yf rfl))))) (m_ (dw (cx (al D1 hr rfl (bA (pv 1) (b9 (v:=.ref tk) rfl Uq rfl)))))))) (af (aw (a_ (aO (cN (cQ.i U (n:=-2) zq_dk) rfl))))) aK)
  (af (aw (a_ (aO (al D3 (hr.bI zq_dc) rfl (bA (al D2 (hr.bI zq_dc) rfl (aO (pv 1))) (bK be (pv 0) am (λ _ _=>rfl)))))))),?_⟩
 try dsimp only [bx,Cx.dJ]
 have rc:=fh qE;have hw:withinAll ns [(0,10000)]=bJ (ns.getD 0 0) 0 10000:=by
  rw[rc];show(bC (ns.getD 0 0) (0,10000)&&true)=_;rw[kq];rfl
 have i9:c7 kD (.demand row (ns.getD 0 0))=(rW row&&bJ (ns.getD 0 0) 0 10000):=rfl;refine⟨_,rfl,na,tr,ns,[(0,10000)],rfl,aP.of iR,hR H,qE,λ H1 s1=>⟨_,rfl,?_⟩⟩;rw[hw];cases hb:bJ (ns.getD 0 0) 0 10000 with
 |false=>
  refine gk rfl (gk rfl ⟨bE,tm s1 Tb ?_ k⟩);unfold kE;rw[i9,hb,BG];rfl
 |true=>
  refine gg rfl ?_;refine⟨_,rfl,ra,tk,row,_,rfl,aP.of (s1 _ _ iP),(hK _),zq_dc,zq_dc,ic,λ H2 s2=>⟨_,rfl,?_⟩⟩;have mZ:=s1.trans s2;rw[xi];cases ok:rW row with
  |false=>
   refine gk rfl ⟨bE,tm mZ Tb ?_ k⟩;unfold kE;rw[i9,ok];rfl
  |true=>
   refine gg rfl ?_;obtain⟨b1,b2⟩:0<=ns.getD 0 0/\ns.getD 0 0<=10000:=by
    unfold bJ at hb;simpa using hb
   obtain⟨t,ht⟩:∃n:Nat,ns.getD 0 0=n:=⟨(ns.getD 0 0).toNat,ah⟩;have hg:kE ns row=[(oG (e8 row) t:Int)]:=by
    unfold kE;rw[i9,ok,hb,ht];rfl
   rw[hg]at k;have jY:ml (ns.map V.int) (0:Int)=some (nI t):=by
    show _=some (V.int (t:Int));rw[<-ht];exact cA (k:=0) ah
   refine⟨_,rfl,ra,row,rfl,aP.of (mZ _ _ iP),ok,λ ka H3 bs DP s3 j3 R3=>?_⟩;have ie:=mZ.trans s3;refine⟨_,rfl,na,_,_,_,rfl,rfl,aP.of (ie _ _ iR),jY,ka,_,bs,t,rfl,R3,j3,kok ok,λ H4 s4=>⟨bE,λ p hp=>?_⟩⟩;have sz:=ie.trans (s4.trans (ae.new (o:=.aD [nI (oG (e8 row) t)]) hp));exact k p _ (ae.bN (ie.trans s4) hp) (o5.same sz) (Tb.same sz) (by rw[aa];rfl)
theorem Oa(F:bi K "again" GV f fd)(T:Txt K mg C)(U:cQ K mg)(D1:cF P w K mg base "are_kinds" [c_,DX] 4 (xm K))(D2:cF P w K mg base "kinds_of" [c_] 3 (vC K B))(D3:cF P w K mg base "common_round" [tO] 3 (HH B))(D4:cF P w K mg base "first_overload" [tO,"last"] 2 (HK B)):
  bj P w K mg base CX0 5 f fd [fb,c_] (kC C 0 qw):=by
 refine F.ok [fb,c_,tO,"whole","found"] λ b_ A aA s H vs Q E hr h nd=>?_
 obtain⟨na,ra,ns,row,rfl,iR,iP,qE,ic,Tb,k⟩:=h;obtain⟨tk,Uq,hK⟩:=U.row ("KIND_RANGES",[(1,12),(1,12),(1,12)]) zq_dk;refine⟨_,ab (br (dw (cx (al D1 hr rfl (bA (pv 1) (b9 (v:=.ref tk) rfl Uq rfl))))) (af (aw (a_ (aO (cN (cQ.i U (n:=-2) zq_dk) rfl))))) aK)
  (ab (bg (i:=2) nd rfl (aH rfl) (al D2 (hr.bI zq_dc) rfl (aO (pv 1))))
  (ab (bg (i:=3) nd rfl (aH rfl) (al D3 (hr.bI zq_dc) rfl (aO (pv 2))))
  (ab (bg (i:=4) nd rfl (aH rfl) (al D4 (hr.bI zq_dc) rfl (bA (pv 2) (pv 3))))
  (ab (br (aI vP (pv 4) fC (aR _)) (af (aw (a_ (bA am (pv 3))))) aK)
  (af (aw (bG vZ (a_ (bA am (pv 3))) (pv 4)))))))),?_⟩
 try dsimp only [bx,Cx.dJ]
 refine⟨_,rfl,ra,tk,row,_,rfl,aP.of iP,hK H,zq_dc,zq_dc,ic,λ H1 s1=>⟨_,rfl,?_⟩⟩;rw[xi];cases ok:rW row with
 |false=>
  refine gk rfl ⟨bE,tm s1 Tb ?_ k⟩;unfold qw;rw[ok];rfl
 |true=>
  refine gg rfl ?_;have hg:qw ns row=match N2 (e8 row)with|none=>Vbtkad.ints [1,ig (e8 row)]|some t=>Vbtkad.ints [0,ig (e8 row),t,oG (e8 row) t]:=by unfold qw;rw[ok];rfl
  rw[hg]at k;have kk:=kok ok;obtain⟨l,hl⟩:=bS (e8 row);refine⟨_,rfl,ra,row,rfl,aP.of (s1 _ _ iP),ok,λ ka H2 bs DP s2 j3 R2=>?_⟩;rw[<-hl]at k kk j3 R2;have mZ:=s1.trans s2;refine⟨_,rfl,ka,l,bs,rfl,R2,j3,kk,?_⟩;refine⟨_,rfl,_,rfl,ka,l,bs,rfl,R2,j3,kk,λ hn H3 s3=>?_,λ t ht p3 H3 T0 s3 h3=>?_⟩
  .rw[hn]at k;have ie:=mZ.trans s3;refine⟨_,rfl,rfl,_,rfl,gk rfl ⟨_,rfl,eM,λ p hp=>?_⟩⟩;exact k p _ (ae.bN ie hp) (o5.same (ie.trans (ae.new hp))) (Tb.same (ie.trans (ae.new hp))) (by rw[aa];rfl)
  .rw[ht]at k;have ie:=mZ.trans s3;refine⟨_,rfl,rfl,_,rfl,gg rfl ⟨_,rfl,eM,λ q hq=>⟨_,rfl,?_⟩⟩⟩;have s4:=ae.new (o:=.aD [V.int 0,nI (ig l)]) hq;refine⟨q,p3,_,_,rfl,rfl,aa,s4 _ _ h3,(by show(4:Nat)<=2^24;decide),λ p hp=>?_⟩;have sz:=ie.trans (s4.trans (ae.new (o:=.aD ([V.int 0,nI (ig l)]++[(t:Int),(oG l t:Int)].map V.int)) hp));exact k p _ (ae.bN ie (ae.bN s4 hp)) (o5.same sz) (Tb.same sz) (by rw[aa];rfl)
def o6(l:List aV)(i:Nat):List Int:=match N5 l i with
 |none=>[0]
 |some r=>Vbtkad.ints [1,r]
def hX(l:List aV)(i:Nat):List Int:=(bf i).flatMap (o6 l)
theorem kQ(l:List aV)(i:Nat):hX l (i+1)=hX l i++o6 l i:=by
 unfold hX;rw[uA,GD];simp
theorem Dk(l:List aV)(i:Nat):(o6 l i).length<=2:=by
 unfold o6;cases N5 l i with
 |none=>show 1<=2;decide
 |some r=>show 2<=2;decide
theorem l6(l:List aV):∀i,(hX l i).length<=2*i
 |0=>ci _
 |i+1=>by
  rw[kQ,dc];have:=l6 l i;have:=Dk l i;omega
theorem Dl(F:bi K "response" wv f fd)(T:Txt K mg C)(U:cQ K mg)(D1:cF P w K mg base "are_kinds" [c_,DX] 4 (xm K))(D2:cF P w K mg base "kinds_of" [c_] 3 (vC K B))(D3:cF P w K mg base "response_of" [tO,"place"] 2 (N4 B)):
  bj P w K mg base CX0 5 f fd [fb,c_] (kC C 0 xq):=by
 refine F.ok [fb,c_,tO,"told","place","found"] λ b_ A aA s H vs Q E hr h nd=>?_
 obtain⟨na,ra,ns,row,rfl,iR,iP,qE,ic,Tb,k⟩:=h;obtain⟨tk,Uq,hK⟩:=U.row ("KIND_RANGES",[(1,12),(1,12),(1,12)]) zq_dk;refine⟨_,ab (br (dw (cx (al D1 hr rfl (bA (pv 1) (b9 (v:=.ref tk) rfl Uq rfl))))) (af (aw (a_ (aO (cN (cQ.i U (n:=-2) zq_dk) rfl))))) aK)
  (ab (bg (i:=2) nd rfl (aH rfl) (al D2 (hr.bI zq_dc) rfl (aO (pv 1))))
  (ab (bg (i:=3) nd rfl (aH rfl) (a_ il))
  (ab (ee eY rfl (oT rfl (T.bu _ zq_dk) (aO (aY aW (by rfl) (T.bu _ zq_dk) eX (aO (pv 2))))) (aU (i:=4) nd rfl (aH rfl))
   (ab (bg (i:=5) nd rfl (aH rfl) (al D3 (hr.bI zq_dc) rfl (bA (pv 2) (pv 4))))
   (af (bz (iK jc pJ rL e_ (pv 3) (aO (qG (aI vP (pv 5) fC (aR _)) (a_ (aO am)) (a_ (bA am (pv 5))))))))))
  (af (aw (pv 3)))))),?_⟩
 try dsimp only [bx,Cx.dJ]
 refine⟨_,rfl,ra,tk,row,_,rfl,aP.of iP,hK H,zq_dc,zq_dc,ic,λ H1 s1=>⟨_,rfl,?_⟩⟩;rw[xi];cases ok:rW row with
 |false=>
  refine gk rfl ⟨bE,tm s1 Tb ?_ k⟩;unfold xq;rw[ok];rfl
 |true=>
  refine gg rfl ?_;have hg:xq ns row=hX (e8 row) (e8 row).length:=by unfold xq;rw[ok];rfl
  rw[hg]at k;have kk:=kok ok;obtain⟨l,hl⟩:=bS (e8 row);refine⟨_,rfl,ra,row,rfl,aP.of (s1 _ _ iP),ok,λ ka H2 bs DP s2 j3 R2=>?_⟩;rw[<-hl]at k kk j3 R2;have h6:=kk.len;have mZ:=s1.trans s2;refine⟨zq_dc,λ tp pw=>?_⟩;have s3:=ae.new (o:=.aD []) pw;have R3:=R2.same s3;refine⟨_,rfl,ka,_,rfl,.inl (aP.of R3.aD),_,rfl,?_,?_,?_⟩
  .show-(2^62)<=(((bs.map V.ref).length:Nat):Int);omega
  .show(((bs.map V.ref).length:Nat):Int)<2^62;rw[ak];omega
  rw[k9,ak,j3];have adc:H tp=none:=ae.bN mZ pw;refine kY (lo:=0) (n:=l.length) (λ i σ H'=>ae H2 H'/\H' tp=some (.aD ((hX l i).map V.int))/\∃x y,σ=[some (.ref na),some (.ref ra),some (.ref ka),some (.ref tp),x,y]) ⟨s3,aa,⟨_,_,rfl⟩⟩ (λ i σ H4 hi p=>?_) (λ σ H4 p=>?_)
  .obtain⟨s4,h4,x0,y0,rfl⟩:=p;have hrl:=l6 l i;have fU:∀(H5:Hp)(o:HO),ae H2 H5 ->ae H2 (aS H5 tp o):=λ H5 o s5 b u e=>by
    rw[ag (aM e pw)];exact s5 b u e
   refine⟨_,rfl,_,rfl,ka,l,bs,i,(by rw[NI];rfl),R2.same s4,j3,kk,hi,λ hn H5 s5=>?_,λ r sU H5 s5=>?_⟩
   .have h5:=s5 _ _ h4;refine⟨_,rfl,.inl ⟨rfl,_,aP.of h5⟩,_,rfl,rfl,_,rfl,gk rfl ⟨bE,λ q hq=>⟨tp,q,_,_,rfl,rfl,ae.new hq _ _ h5,aa,?_,fU _ _ ((s4.trans s5).trans (ae.new hq)),?_,⟨_,_,rfl⟩⟩⟩⟩
    .rw[ak];show(hX l i).length+1<=2^24;omega
    .rw[aa,kQ,dZ];unfold o6;rw[hn];rfl
   .have h5:=s5 _ _ h4;refine⟨_,rfl,.inl ⟨rfl,_,aP.of h5⟩,_,rfl,rfl,_,rfl,gg rfl ⟨_,rfl,eM,λ q hq=>⟨tp,q,_,_,rfl,rfl,ae.new hq _ _ h5,aa,?_,fU _ _ ((s4.trans s5).trans (ae.new hq)),?_,⟨_,_,rfl⟩⟩⟩⟩
    .rw[ak];show(hX l i).length+2<=2^24;omega
    .rw[aa,kQ,dZ];unfold o6;rw[sU];rfl
  .obtain⟨s4,h4,x0,y0,rfl⟩:=p;have sz:=mZ.trans s4;exact⟨_,rfl,k tp H4 adc (o5.same sz) (Tb.same sz) h4⟩
def iT(ks:List (aV×Nat))(S:List PS)(i:Nat):List Int:=(bf i).flatMap λ j=>[((sd S j).done:Int),((sd S j).longest:Int)]
theorem p9(ks:List (aV×Nat))(S:List PS)(i:Nat):iT ks S (i+1)=iT ks S i++[((sd S i).done:Int),((sd S i).longest:Int)]:=by
 unfold iT;rw[uA,GD];simp
theorem rY(ks:List (aV×Nat))(S:List PS):∀i,(iT ks S i).length=2*i
 |0=>rfl
 |i+1=>by
  rw[p9,dc,rY ks S i];rfl
theorem Ob{ks:List (aV×Nat)}{N:Nat}{S:List PS}{acc:List (Nat×Nat)}(I:qv ks N N S acc):iT ks S ks.length=Vbtkad.ints ((bf ks.length).flatMap λ i=>[((xr ks N).filter λ e=>e.1==i).length,Oc (xr ks N) i]):=by
 rw[I.fin];unfold iT Vbtkad.ints;rw[List.map_flatMap];rw[abg,abg];congr 1;refine gu λ i hi=>?_
 rw[<-I.num i (gB.mp hi),<-I.lng i (gB.mp hi)];rfl
theorem JI(F:bi K "ranked" rq f fd)(T:Txt K mg C)(TB:iw K B)(U:cQ K mg)(D0:Jf P w K mg base)(D1:cF P w K mg base "are_kinds" [c_,DX] 4 (xm K))(D2:cF P w K mg base "in_groups" [c_,"size"] 1 (lB K))(D3:tj P w K mg base "Kind" B.cK ["self","told"] 1 (kz B.cK gE))(D4:cF P w K mg base "run_by_ranks" [tO,"beginnings","count"] 3 (HL B)):
  bj P w K mg base CX0 5 f fd [fb,c_] (kC C 1 kF):=by
 refine F.ok [fb,c_,"groups",tO,"group","beginnings","told","progress"] λ b_ A aA s H vs Q E hr h nd=>?_
 obtain⟨na,ra,ns,row,rfl,iR,iP,qE,ic,Tb,k⟩:=h;obtain⟨tr,yf,hR⟩:=U.row ("RANKED_LENGTH_RANGES",[(0,300)]) zq_dk;obtain⟨tk,Uq,hK⟩:=U.row ("RANKED_RANGES",[(1,12),(1,12),(1,12),(0,30)]) zq_dk;refine⟨_,ab (br (PW.pt (tT (dw (cx (al D0 (hr.bI zq_dc) rfl (bA (pv 0) (b9 (v:=.ref tr) rfl yf rfl))))) (m_ (dw (cx (al D1 hr rfl (bA (pv 1) (b9 (v:=.ref tk) rfl Uq rfl)))))))) (af (aw (a_ (aO (cN (cQ.i U (n:=-2) zq_dk) rfl))))) aK)
  (ab (bg (i:=2) nd rfl (aH rfl) (al D2 (hr.bI zq_dc) rfl (bA (pv 1) (aY aW (by rfl) (T.bu _ zq_dk) eX (aO (b9 (v:=.ref tk) rfl Uq rfl))))))
  (ab (gq (i:=3) (own:=[("group",4)]) (tt:=jE) (te:=qI B.cK (kz B.cK gE) [] E0 (cB (bQ 4) ik)) rfl nd rfl rfl (iA rfl rfl rfl zq_dk) (bF (pv 2)) (bP (by show gW [fb,c_,"groups",tO,"group","beginnings","told","progress"] (aJ rq) _ _=true;decide+kernel)) (λ _ _ _ _ _=>by exact aU (i:=4) nd rfl (aH rfl)) (λ _ _ _ _ _=>by exact di) (λ _ _ _ _ _=>by exact g_ D3 (hr.bI zq_dc) rfl (aO (pv 4))))
  (ab (gq (i:=5) (own:=[("group",4)]) (tt:=jE) (te:=tU (zQ K) (bQ 4) (tC (.int 3))) rfl nd rfl rfl (iA rfl rfl rfl zq_dk) (bF (pv 2)) (bP (by show gW [fb,c_,"groups",tO,"group","beginnings","told","progress"] (aJ rq) _ _=true;decide+kernel)) (λ _ _ _ _ _=>by exact aU (i:=4) nd rfl (aH rfl)) (λ _ _ _ _ _=>by exact di) (λ _ _ _ _ _=>by exact bK be (pv 4) am (λ _ _=>rfl)))
  (ab (bg (i:=6) nd rfl (aH rfl) (a_ il))
  (ab (ee eY rfl (bF (al D4 (hr.bI zq_dc) rfl (jG (pv 3) (pv 5) (bK be (pv 0) am (λ _ _=>rfl))))) (aU (i:=7) nd rfl (aH rfl))
   (af (bz (iK jc pJ rL e_ (pv 6) (aO (a_ (bA (ai (pv 7) rfl) (ai (pv 7) rfl))))))))
  (af (aw (pv 6)))))))),?_⟩
 try dsimp only [bx,Cx.dJ]
 have rc:=fh qE;have hw:withinAll ns [(0,300)]=bJ (ns.getD 0 0) 0 300:=by
  rw[rc];show(bC (ns.getD 0 0) (0,300)&&true)=_;rw[kq];rfl
 have i9:c7 kD (.ranked row (ns.getD 0 0))=(Ur row&&bJ (ns.getD 0 0) 0 300):=rfl;refine⟨_,rfl,na,tr,ns,[(0,300)],rfl,aP.of iR,hR H,qE,λ H1 s1=>⟨_,rfl,?_⟩⟩;rw[hw];cases hb:bJ (ns.getD 0 0) 0 300 with
 |false=>
  refine gk rfl (gk rfl ⟨bE,tm s1 Tb ?_ k⟩);unfold kF;rw[i9,hb,BG];rfl
 |true=>
  refine gg rfl ?_;refine⟨_,rfl,ra,tk,row,_,rfl,aP.of (s1 _ _ iP),(hK _),zq_dc,zq_dc,ic,λ H2 s2=>⟨_,rfl,?_⟩⟩;have mZ:=s1.trans s2;rw[Rw];cases ok:Ur row with
  |false=>
   refine gk rfl ⟨bE,tm mZ Tb ?_ k⟩;unfold kF;rw[i9,ok];rfl
  |true=>
   refine gg rfl ?_;obtain⟨b1,b2⟩:0<=ns.getD 0 0/\ns.getD 0 0<=300:=by
    unfold bJ at hb;simpa using hb
   obtain⟨N,hN⟩:∃n:Nat,ns.getD 0 0=n:=⟨(ns.getD 0 0).toNat,ah⟩;have jY:ml (ns.map V.int) (0:Int)=some (nI N):=by
    show _=some (V.int (N:Int));rw[<-hN];exact cA (k:=0) ah
   obtain⟨l4,l24,yt⟩:=zo ok;obtain⟨h6,uF⟩:=zp ok;have hg:kF ns row=Vbtkad.ints ((bf (uG row).length).flatMap λ i=>[((xr (uG row) N).filter λ e=>e.1==i).length,Oc (xr (uG row) N) i]):=by
    unfold kF;rw[i9,ok,hb,hN];rfl
   rw[hg]at k;obtain⟨ks,hks⟩:=bS (uG row);rw[<-hks]at yt h6 uF k;obtain⟨ys,Jd,Ep⟩:=(hK H2).fc;refine⟨_,rfl,tk,ys,rfl,.inr Jd,ra,row,4,(by rw[Ep];rfl),aP.of (mZ _ _ iP),zq_dc,zq_dc,ic,λ ga H3 gs hga s3 hgl G3=>?_⟩;rw[yt,ak]at hgl;have ie:=mZ.trans s3;have hg4:∀i,i<ks.length ->(cc 4 row).getD i []=[((kd ks i).1.period:Int),((kd ks i).1.need:Int),((kd ks i).1.due:Int),((kd ks i).2:Int)]:=λ i hi=>by
    unfold kd;rw[yt,aG,aT,aG,ay hi];rfl
   refine⟨_,rfl,ga,rfl,⟨_,aP.of G3.aD⟩,λ ka DP=>?_⟩;refine rO (cu (aP.of G3.aD)) (mN B (ks.map (·.1))) DP (by rw[ak];omega) (λ i x H4 H5 Qy Qn hi s4 eG hy=>?_) (λ H4 u5 s4 hkl R4 _=>?_)
   .obtain⟨hx,rfl⟩:=eG;rw[ak]at hi;rw[aT,ay hi]at hx;cases hx;obtain⟨_,dx,ho⟩:=G3.at_ i gs[i] (ay hi);have Fu:i<ks.length:=by omega
    have ho4:=s4 _ _ ho;unfold Fn at ho4;rw[hg4 i Fu]at ho4;refine⟨rfl,_,rfl,λ x Uk hx xl jD=>⟨x,gs[i],Uk,_,_,_,[_],rfl,aa,iS hx xl _ _ ho4,rfl,?_⟩⟩;refine hy x _ hx (jB hx xl) ⟨Uk,?_⟩;rw[aa];unfold mN;have ek:(ks.map (·.1)).getD i a0=(kd ks i).1:=by
     unfold kd;rw[aG,aT,aG,ay Fu];rfl
    rw[ek]
   rw[ak,hgl]at hkl;have G4:=G3.same s4;refine⟨_,rfl,ga,rfl,⟨_,aP.of G4.aD⟩,λ ba hba=>?_⟩;refine d_ (cu (aP.of G4.aD)) (λ i=>some (nI (ks.getD i k0).2)) hba (by rw[ak];omega) (λ i x H5 H6 Qy Qn hi s5 eG hy hn=>?_) (λ H5 s5 h5=>?_)
   .obtain⟨hx,rfl⟩:=eG;rw[ak]at hi;rw[aT,ay hi]at hx;cases hx;obtain⟨_,dx,ho⟩:=G4.at_ i gs[i] (ay hi);have Fu:i<ks.length:=by omega
    have ho5:=s5 _ _ ho;unfold Fn at ho5;rw[hg4 i Fu]at ho5;exact⟨rfl,_,rfl,gs[i],_,_,_,rfl,rfl,aP.of ho5,cG (j:=3) rfl,hy _ _ rfl (ae.refl _)⟩
   rw[gA,ak,hgl,fQ (λ x:aV×Nat=>nI x.2)]at h5;have R5:=R4.same s5;refine⟨zq_dc,λ tp pw=>?_⟩;have s6:=ae.new (o:=.aD []) pw;have ade:=s4.trans (s5.trans s6);have hz:=ie.trans ade;refine⟨_,rfl,_,rfl,_,rfl,na,_,_,_,rfl,rfl,aP.of (hz _ _ iR),jY,ka,ba,ks,u5,N,rfl,R5.same s6,hkl,s6 _ _ h5,⟨h6,λ x hx=>⟨(uF x hx).1,(uF x hx).2.1,(uF x hx).2.2.1,(uF x hx).2.2.2.1⟩⟩,ah,λ pa H7 ps S s7 pc R7 hI=>?_⟩;obtain⟨acc,I⟩:=hI;rw[<-Ob I]at k;have adf:=s7 _ _ (show aS H5 tp (.aD []) tp=some (.aD []) from aa);have s57:ae H5 H7:=s6.trans s7;refine⟨pa,rfl,⟨_,aP.of R7.aD⟩,?_⟩;refine eV (K:=K) (a:=pa) (xs:=ps.map V.ref) (λ i σ H'=>ae H5 H'/\bU (mO B u5 ks S) H' pa ps/\H' tp=some (.aD ((iT ks S i).map V.int))/\∃x,σ=[some (.ref na),some (.ref ra),some (.ref ga),some (.ref ka),none,some (.ref ba),some (.ref tp),x]) ⟨s57,R7,adf,⟨_,rfl⟩⟩ (λ i σ H' _ p=>aP.of p.2.1.aD) (λ i x σ H8 hx p=>?_) (λ σ H8 p=>?_)
   .obtain⟨s8,R8,h8,x0,rfl⟩:=p;have hi:i<ps.length:=by
     have:=(gM.mp hx).1;rwa[ak]at this
    rw[aT,ay hi]at hx;cases hx;obtain⟨_,dx,ho⟩:=R8.at_ i ps[i] (ay hi);have npa:pa≠tp:=λ z=>by
     have a:=R8.aD;rw[z,h8]at a
     injection a with a
     injection a with a
     have hm:V.ref ps[i]∈(iT ks S i).map V.int:=by rw[a];exact Nv (gH hi)
     obtain⟨n,_,e⟩:=cY.mp hm;cases e
    have ntp:∀b∈ps,b≠tp:=λ b hb z=>by
     obtain⟨j,hj,e⟩:=gG hb;obtain⟨_,dx,ho⟩:=R8.at_ j b (by rw[ay hj,e]);rw[z,h8]at ho;cases ho
    unfold mO at ho;refine⟨_,rfl,.inl ⟨rfl,_,aP.of h8⟩,_,rfl,rF ho TB.Dg (TB.nP _ zq_dk) (gy _ _ _ (k:=2) rfl rfl) ⟨_,rfl,rF ho TB.Dg (TB.nP _ zq_dk) (gy _ _ _ (k:=4) rfl rfl) ⟨eM,λ r sU=>⟨tp,r,_,_,rfl,rfl,ae.new sU _ _ h8,aa,?_,λ b o e=>?_,(R8.same (ae.new sU)).RO npa ntp,?_,⟨_,rfl⟩⟩⟩⟩⟩
    .rw[ak,rY];show 2*i+2<=2^24;omega
    .rw[ag (aM e pw)];exact ae.new sU _ _ (s8 b o e)
    .rw[aa,p9,dZ];rfl
   .obtain⟨s8,R8,h8,x0,rfl⟩:=p;rw[ak,pc]at h8;have sz:=(ie.trans (s4.trans s5)).trans s8;exact⟨_,rfl,k tp H8 (ae.bN (ie.trans (s4.trans s5)) pw) (o5.same sz) (Tb.same sz) h8⟩
theorem Od{α β:Type}(p:α ->Bool)(g:Nat ->β)(l:List α)(d:α):((bf l.length).filterMap (λ i=>if p (l.getD i d)=true then some (g i)else none)).length=(l.filter p).length:=by
 have h1:∀(is:List Nat),(is.filterMap (λ i=>if p (l.getD i d)=true then some (g i)else none)).length=(is.filterMap (λ i=>if p (l.getD i d)=true then some (l.getD i d)else none)).length:=by
  intro is;induction is with
  |nil=>rfl
  |cons i is ih=>
   rw[Bp,Bp];by_cases h:p (l.getD i d)=true
   .rw[au h,au h];exact congrArg (·+1) ih
   .rw[ao h,ao h];exact ih
 rw[h1,rT p (λ x=>x) l d,ak]
theorem Fv(l:List (Option Nat)):(l.map fJ).count (-1)=(l.filter λ w=>w==none).length:=by
 induction l with
 |nil=>rfl
 |cons w l ih=>
  rw[dW,List.count_cons,gZ,ih];cases w with
  |none=>rfl
  |some j=>
   have e:(fJ (some j)==-1)=false:=by
    show(((j:Nat):Int)==-1)=false;rw[W9];omega
   rw[e];rfl
def vD(m:ax)(ns row:List Int):ax×List Int:=cI m .totals
theorem JJ(F:bi K "totals" wy f fd)(T:Txt K mg C)(U:cQ K mg)(D1:cF P w K mg base "is_over" [dL] 1 (qo C))(D2:cF P w K mg base "stretches" ["runners"] 1 (Ho K))(D3:cF P w K mg base "pass_in_lowest_terms" ["pass_parts"] 2 Nf):
  bj P w K mg base CX0 3 f fd [b8,fb,c_] (dg C 0 vD):=by
 refine F.ok [b8,fb,c_,"over",dL,"told"] λ b_ A0 aA s H vs Q E hr h nd=>?_
 obtain⟨A,m,na,ra,ns,row,rfl,M,iR,iP,Jj,Jk,bH,uX,mW,k⟩:=h;refine⟨_,ab (gq (i:=3) (own:=[("job",4)]) (tt:=tB (tCall (qo C) [] E0 (cB (bQ 4) ik))) (te:=bQ 4) rfl nd rfl rfl (iA rfl rfl rfl zq_dk) (bF (ai (pv 0) rfl)) (bP (by show gW [b8,fb,c_,"over",dL,"told"] (aJ wy) _ _=true;decide+kernel)) (λ _ _ _ _ _=>by exact aU (i:=4) nd rfl (aH rfl)) (λ _ _ _ _ _=>by exact lL (cx (al D1 (hr.bI zq_dc) rfl (aO (pv 4))))) (λ _ _ _ _ _=>by exact pv 4))
  (ab (bg (i:=5) nd rfl (aH rfl) (a_ (dE (ai (pv 0) rfl) (jG (aY aW (by rfl) (T.bu _ zq_dk) eX (aO (ai (pv 0) rfl))) (aY aW (by rfl) (T.bu _ zq_dk) eX (aO (pv 3))) (iK jc PySem.F.slot_list_count PySem.F.type_list_count Jp (ai (pv 0) rfl) (aO (cN (T.i (n:=-1) zq_dk) rfl)))))))
  (ab (bz (iK jc yF CC jx (pv 5) (aO (bK be (al D2 (hr.bI zq_dc) rfl (aO (ai (pv 0) rfl))) am (λ _ _=>rfl)))))
  (ab (bz (iK jc pJ rL e_ (pv 5) (aO (al D3 hr rfl (aO (ai (pv 0) rfl))))))
  (af (aw (pv 5)))))),?_⟩
 try dsimp only [bx,Cx.dJ]
 obtain⟨d0,xU⟩:=M.ok.dA;have hl:=M.ok.aD;have G5:=M.wf.len;refine⟨_,rfl,A.ma,C.cM,d0,_,_,rfl,xU,T.iX,T.nM _ zq_dk,MV.get _ (k:=8) rfl rfl,A.la,rfl,⟨_,aP.of hl⟩,λ D hD=>?_⟩;refine d_ (cu (aP.of hl)) (λ i=>if gw (m.jobs.getD i oH)=true then some (V.ref (aj A i))else none) hD (by rw[ak,bM];omega) (λ i x H1 H2 Qy Qn hi s1 eG hy hn=>?_) (λ H1 s1 h1=>?_)
 .obtain⟨hx,rfl⟩:=eG;rw[ak,bM]at hi;obtain⟨ej,⟨dj,hj⟩⟩:=M.job hi;rw[aT,ej]at hx;cases hx;have pq:=s1 _ _ hj;refine⟨rfl,_,rfl,aj A i,_,rfl,⟨dj,pq⟩,_,rfl,?_⟩;have e2:(decide ((bZ i (A.ps.getD i 0) (aX m i)).aF=3)||decide ((bZ i (A.ps.getD i 0) (aX m i)).aF=4))=gw (m.jobs.getD i oH):=lY (aX m i).stand;rw[e2];cases hc:gw (m.jobs.getD i oH)with
  |true=>exact gk rfl ⟨_,rfl,hy _ _ (by rw[hc];rfl) (ae.refl _)⟩
  |false=>exact gg rfl (hn _ (by rw[hc];rfl) (ae.refl _))
 rw[ak,bM]at h1;obtain⟨ov,hov⟩:=bS ((bf m.jobs.length).filterMap (λ i=>if gw (m.jobs.getD i oH)=true then some (V.ref (aj A i))else none));have Zz:ov.length=(m.jobs.filter gw).length:=by rw[hov];exact Od gw (λ i=>V.ref (aj A i)) m.jobs oH
 rw[<-hov]at h1;have M1:=M.same s1;obtain⟨d1,qC⟩:=M1.ok.dA;have pj:=M1.ok.aD;have IH:H1 A.ra=some (.aD ((m.who.map fJ).map V.int)):=M1.ok.run;refine⟨_,rfl,A.ma,C.cM,d1,_,_,rfl,qC,T.iX,T.nM _ zq_dk,MV.get _ (k:=4) rfl rfl,_,rfl,A.ma,C.cM,d1,_,_,rfl,qC,T.iX,T.nM _ zq_dk,MV.get _ (k:=8) rfl rfl,_,_,rfl,.inl (aP.of pj),_,rfl,D,ov,rfl,.inl (aP.of h1),
  _,rfl,A.ma,C.cM,d1,_,_,rfl,qC,T.iX,T.nM _ zq_dk,MV.get _ (k:=9) rfl rfl,.inl ⟨rfl,_,aP.of IH⟩,A.ra,m.who.map fJ,-1,rfl,rfl,aP.of IH,(by show(4:Nat)<=2^24;decide),λ tp pw=>?_⟩
 rw[ak,bM,Zz,Fv];generalize wX:aS H1 tp _=H2;obtain⟨L0,hL0⟩:∃L0:List Int,L0=[(m.now:Int),(m.jobs.length:Int),((m.jobs.filter gw).length:Int),((m.who.filter λ w=>w==none).length:Int)]:=⟨_,rfl⟩;have pM:H2 tp=some (.aD (L0.map V.int)):=by rw[<-wX,aa,hL0];rfl
 have s2:ae H1 H2:=by rw[<-wX];exact ae.new pw
 have M2:=M1.same s2;obtain⟨d2,DQ⟩:=M2.ok.dA;have Zw:H2 A.ra=some (.aD ((m.who.map fJ).map V.int)):=M2.ok.run;have hL4:L0.length=4:=by rw[hL0];rfl
 refine⟨_,rfl,.inl ⟨rfl,_,aP.of pM⟩,_,rfl,A.ma,C.cM,d2,_,_,rfl,DQ,T.iX,T.nM _ zq_dk,MV.get _ (k:=9) rfl rfl,A.ra,m.who.map fJ,rfl,aP.of Zw,?_,λ p3 H3 T0 s3 h3=>?_⟩
 .rw[ak,M.wf.who];omega
 rw[sY]at h3;have jY:ml ((Hs m.who).map V.int) (0:Int)=some (.int ((Dm m.who).length:Int)):=cG (j:=0) rfl;have Wd:=s3 _ _ pM;refine⟨p3,_,_,_,rfl,rfl,aP.of h3,jY,tp,_,_,rfl,rfl,Wd,?_,?_⟩
 .rw[ak,hL4]
  decide
 generalize DV:aS H3 tp _=H4;have T6:H4 tp=some (.aD ((L0++[((Dm m.who).length:Int)]).map V.int)):=by rw[<-DV,aa,dZ];rfl
 have s4:ae H1 H4:=by rw[<-DV];exact gx pw (s2.trans s3)
 have M4:=M1.same s4;obtain⟨d4,hm4⟩:=M4.ok.dA;refine⟨_,rfl,.inl ⟨rfl,_,aP.of T6⟩,_,rfl,A.ma,C.cM,d4,_,_,rfl,hm4,T.iX,T.nM _ zq_dk,MV.get _ (k:=5) rfl rfl,fI m.floor,rfl,λ p5 H5 hp5 s5 h5=>?_⟩;obtain⟨en,ed⟩:=Hh (f:=m.floor) M.wf.floor;rw[<-en,<-ed]at h5;have Wu:=s5 _ _ T6;refine⟨tp,p5,_,_,rfl,rfl,Wu,h5,?_,?_⟩
 .rw[ak,dc,hL4];show 4+1+2<=2^24
  decide
 have sz:ae H1 (aS H5 tp (.aD ((L0++[((Dm m.who).length:Int)]).map V.int++[((m.floor.n:Nat):Int),((m.floor.d:Nat):Int)].map V.int))):=gx pw (s4.trans s5);refine⟨_,rfl,k tp _ A rfl (M1.same sz) ((fP.same s1).trans (fP.same sz)) (ae.bN s1 pw) (bL M1 pw) ?_⟩;rw[aa,hL0];rfl
def Fw(m:ax)(j:Nat):V:=match HM m (aX m j)with
 |none=>.bu
 |some b=>.int (b:Int)
def abh(C:CA):Sp:=λ vs H Q _=>∃(A:MA)(m:ax)(j:Nat),vs=[.ref A.ma,.ref (aj A j)]/\jr C H A m/\j<m.jobs.length/\Q (Fw m j) H
theorem abi(F:bi K "wait_bound" rm f fd)(T:Txt K mg C):bj P w K mg base CX0 1 f fd [b8,dL] (abh C):=by
 refine F.ok [b8,dL,"told"] λ b_ A0 aA s H vs Q E hr h nd=>?_
 obtain⟨A,m,j,rfl,M,hj,k⟩:=h;refine⟨_,ab (bg (i:=2) nd rfl (aH rfl) (aY aW (by rfl) (T.bu _ zq_dk) eX (aO (ai (pv 0) rfl))))
  (ab (br (aI dM (ai (pv 0) rfl) (cN (T.i (n:=0) zq_dk) rfl) (aR _)) (af (aw (bG sD (ai (pv 0) rfl) (bG gU (pv 2) am)))) aK)
  (ab (br (PW.pt (qd (aI dM (ai (pv 0) rfl) (cN (T.i (n:=1) zq_dk) rfl) (aR _)) (lI (aI kZ (ai (pv 0) rfl) am (aR _))))) (af (aw (bG eh (bG sD (ai (pv 0) rfl) (bG gU am (ai (pv 1) rfl))) (pv 2)))) aK)
  (af (aw fC)))),?_⟩
 try dsimp only [bx,Cx.dJ]
 obtain⟨d0,xU⟩:=M.ok.dA;obtain⟨_,⟨dj,Jl⟩⟩:=M.job hj;have hl:=M.ok.aD;have G5:=M.wf.len;have J:=(M.wf.job j hj).uw.2;have aea:=M.wf.age;refine⟨_,rfl,A.ma,C.cM,d0,_,_,rfl,xU,T.iX,T.nM _ zq_dk,MV.get _ (k:=8) rfl rfl,_,_,rfl,.inl (aP.of hl),?_⟩;rw[ak,bM];refine⟨_,rfl,A.ma,C.cM,d0,_,_,rfl,xU,T.iX,T.nM _ zq_dk,MV.get _ (k:=0) rfl rfl,rfl,_,rfl,?_⟩;rw[gf];unfold Fw HM at k;by_cases c0:m.policy=0
 .rw[au c0]at k;refine gk (bO (show((m.policy:Nat):Int)=0 by omega)) ?_;refine⟨_,rfl,A.ma,C.cM,d0,_,_,rfl,xU,T.iX,T.nM _ zq_dk,MV.get _ (k:=1) rfl rfl,_,rfl,_,_,rfl,rfl,_,_,rfl,rfl,.inr ⟨ah,ah⟩,?_⟩;have e:((m.slice:Int)*((m.jobs.length:Int) -1))=((m.slice*(m.jobs.length -1):Nat):Int):=by
   rw[show(m.jobs.length:Int) -1=((m.jobs.length -1:Nat):Int) by omega]
   norm_cast
  show Q (V.int ((m.slice:Int)*((m.jobs.length:Int) -1))) H;rw[e];exact k
 .rw[ao c0]at k;refine gg (gh (show¬((m.policy:Nat):Int)=0 by omega)) ?_;refine⟨_,rfl,A.ma,C.cM,d0,_,_,rfl,xU,T.iX,T.nM _ zq_dk,MV.get _ (k:=0) rfl rfl,rfl,_,rfl,?_⟩;rw[gf];by_cases c1:m.policy=1
  .refine gk (bO (show((m.policy:Nat):Int)=1 by omega)) ?_;refine⟨_,rfl,A.ma,C.cM,d0,_,_,rfl,xU,T.iX,T.nM _ zq_dk,MV.get _ (k:=2) rfl rfl,_,_,rfl,rfl,_,rfl,?_⟩;by_cases c2:m.age≠0
   .rw[au ⟨c1,c2⟩]at k;refine gk (bO (show(0:Int)<((m.age:Nat):Int) by omega)) ?_;refine⟨_,rfl,A.ma,C.cM,d0,_,_,rfl,xU,T.iX,T.nM _ zq_dk,MV.get _ (k:=2) rfl rfl,_,rfl,aj A j,C.cJ,dj,_,_,rfl,Jl,T.kK,T.nJ _ zq_dk,JV.get _ (k:=2) rfl rfl,_,_,rfl,rfl,_,_,rfl,rfl,.inl ⟨(by show-(2^64)<((m.age:Nat):Int);omega),(by show((m.age:Nat):Int)<2^64;omega)⟩,_,rfl,_,_,rfl,rfl,?_⟩;have e:((m.age:Int)*(11 -((aX m j).urgency:Int))+(m.jobs.length:Int))=((m.age*(11 -(aX m j).urgency)+m.jobs.length:Nat):Int):=by
     rw[show(11:Int) -((aX m j).urgency:Int)=((11 -(aX m j).urgency:Nat):Int) by omega]
     norm_cast
    show Q (V.int ((m.age:Int)*(11 -((aX m j).urgency:Int))+(m.jobs.length:Int))) H;rw[e];exact k
   .rw[ao (λ z=>c2 z.2)]at k;refine gg (gh (show¬(0:Int)<((m.age:Nat):Int) by omega)) ?_;exact k
  .rw[ao (λ z=>c1 z.1)]at k;refine gg (gh (show¬((m.policy:Nat):Int)=1 by omega)) ?_;refine gg rfl ?_;exact k
def oI(m:ax)(ns row:List Int):ax×List Int:=
 if c7 m (.bound (ns.getD 0 0))=true then cI m (.bound (ns.getD 0 0))else(m,[-2])
theorem Oe(F:bi K "bound" G0 f fd)(T:Txt K mg C)(U:cQ K mg)(D1:Jf P w K mg base)(D2:cF P w K mg base "job_numbers" [b8] 1 (wW C))(D3:cF P w K mg base "wait_bound" [b8,dL] 1 (abh C)):
  bj P w K mg base CX0 3 f fd [b8,fb,c_] (dg C 1 oI):=by
 refine F.ok [b8,fb,c_,"found"] λ b_ A0 aA s H vs Q E hr h nd=>?_
 obtain⟨A,m,na,ra,ns,row,rfl,M,iR,iP,Jj,Jk,bH,uX,mW,k⟩:=h;have rc:=fh bH;refine⟨_,ab (br (dw (cx (al D1 (hr.bI zq_dc) rfl (bA (pv 1) (fE (aO (al D2 (hr.bI zq_dc) rfl (aO (pv 0))))))))) (af (aw (a_ (aO (cN (cQ.i U (n:=-2) zq_dk) rfl))))) aK)
  (ab (bg (i:=3) nd rfl (aH rfl) (al D3 (hr.bI zq_dc) rfl (bA (pv 0) (bK be (ai (pv 0) rfl) (bK be (pv 1) am (λ _ _=>rfl)) (λ _ _=>rfl)))))
  (ab (br (aI vP (pv 3) fC (aR _)) (af (aw (a_ (aO am)))) aK)
  (af (aw (a_ (bA am (pv 3))))))),?_⟩
 try dsimp only [bx,Cx.dJ]
 refine⟨_,rfl,_,rfl,A,m,rfl,M,λ t1 EZ=>⟨bE,λ t2 pM=>?_⟩⟩;have sa:=ae.new (o:=.fc ([0,(m.jobs.length:Int) -1].map V.int)) EZ;have sb:=ae.new (o:=.fc [.ref t1]) pM;have Ht:=sa.trans sb;refine⟨na,t2,ns,[(0,(m.jobs.length:Int) -1)],rfl,aP.of (Ht _ _ iR),sZ aa (e9.of (sb _ _ aa)),bH,λ H1 Rk=>?_⟩;have s1:=Ht.trans Rk;have hw:withinAll ns [(0,(m.jobs.length:Int) -1)]=c7 m (.bound (ns.getD 0 0)):=by
  rw[rc];show(bC (ns.getD 0 0) (0,(m.jobs.length:Int) -1)&&true)=_;rw[kq];rfl
 have M1:=M.same s1;have g9:=s1 _ _ iR;obtain⟨d1,qC⟩:=M1.ok.dA;refine⟨_,rfl,?_⟩;rw[hw];have Gr:∀(Wv:List Int),oI m ns row=(m,Wv) ->∀p,H1 p=none ->Q (.ref p) (aS H1 p (.aD (Wv.map V.int))):=λ Wv hg p hp=>by
  rw[hg]at k;exact k p _ A rfl (M1.same (ae.new hp)) (fP.new (fP.same s1) hp) (ae.bN s1 hp) (bL M1 hp) aa
 cases hb:c7 m (.bound (ns.getD 0 0))with
 |false=>exact⟨bE,Gr [-2] (by unfold oI;rw[hb];rfl)⟩
 |true=>
  have j7:bJ (ns.getD 0 0) 0 ((m.jobs.length:Int) -1)=true:=hb;obtain⟨b1,b2⟩:0<=ns.getD 0 0/\ns.getD 0 0<=(m.jobs.length:Int) -1:=by
   unfold bJ at j7;simpa using j7
  obtain⟨j,hj⟩:∃n:Nat,ns.getD 0 0=n:=⟨(ns.getD 0 0).toNat,ah⟩;have Bl:j<m.jobs.length:=by omega
  have yg:ml (ns.map V.int) (0:Int)=some (.int (j:Int)):=by
   rw[<-hj];exact cA (k:=0) ah
  obtain⟨ej,_⟩:=M1.job Bl;have E5:ml ((bw A m).js.map λ q=>V.ref q.a) (j:Int)=some (.ref (aj A j)):=by
   refine cG ?_;rw[aT,ej];rfl
  refine⟨_,rfl,_,rfl,A.ma,C.cM,d1,_,_,rfl,qC,T.iX,T.nM _ zq_dk,MV.get _ (k:=8) rfl rfl,_,rfl,na,_,_,_,rfl,rfl,aP.of g9,yg,_,_,_,_,rfl,rfl,aP.of M1.ok.aD,E5,A,m,j,rfl,M1,Bl,?_⟩;have hd:oI m ns row=(m,match HM m (aX m j)with|none=>[0]|some b=>Vbtkad.ints [1,b]):=by
   unfold oI;rw[hb,hj];rfl
  unfold Fw;cases hbd:HM m (aX m j)with
  |none=>
   rw[hbd]at hd;exact⟨_,rfl,rfl,_,rfl,gk rfl ⟨bE,Gr [0] hd⟩⟩
  |some b=>
   rw[hbd]at hd;exact⟨_,rfl,rfl,_,rfl,gg rfl ⟨_,rfl,eM,Gr _ hd⟩⟩
theorem HN:∀{N:List Str}{vs:List V}{f:Str}{v:V},N.Nodup ->N[vs.length]?=some f ->eE f v (N.zip vs)=N.zip (vs++[v])
 |[],_,_,_,_,h=>by simp at h
 |n::N,[],f,v,_,h=>by
  have e:n=f:=by simpa using h
  subst e;simp[eE]
 |n::N,u::vs,f,v,nd,h=>by
  have h':N[vs.length]?=some f:=by simpa using h
  have ne:n≠f:=λ e=>(mi.mp nd).1 (e.symm▸cH h')
  show eE f v ((n,u)::N.zip vs)=(n,u)::N.zip (vs++[v]);rw[eE,ao ne,HN (mi.mp nd).2 h']
theorem bW{N:List Str}{f:Str}{v:V}(vs vs':List V)(nd:N.Nodup)(h:N[vs.length]?=some f)(e:vs++[v]=vs'):eE f v (N.zip vs)=N.zip vs':=by rw[HN nd h,e]
theorem xt{H:Hp}{a b:Addr}{o u:HO}(h:a≠b):aS (aS H a o) b u=aS (aS H b u) a o:=by
 funext c
 by_cases h1:c=a
 .subst h1;rw[ag h,aa,aa]
 .by_cases h2:c=b
  .subst h2;rw[aa,ag h1,aa]
  .rw[ag h2,ag h1,ag h1,ag h2]
def Fx(n c u s d r:Int)(pa:Addr):JV:=⟨n,c,u,s,d,r,pa,0,0,0,0,0,0,0,0,0,0,0,0,0⟩
def AL(K:aE)(C:CA):Sp:=λ vs H Q _=>∃(x t pp dx:Addr)(n c u s d r:Int)(ps:List Int),vs=[.ref x,.int n,.ref t,.ref pp]/\H x=some (.bD C.cJ dx [])/\(aP K H t ([c,u,s,d,r].map V.int)\/e9 K H t ([c,u,s,d,r].map V.int))/\t≠x/\aP K H pp (ps.map V.int)/\
 ∀q,H q=none ->Q .bu (aS (aS H q (.aD (ps.map V.int))) x (.bD C.cJ dx (Fx n c u s d r q).fs))
theorem RP(F:v7 K "__init__" "Job.__init__" wr f fd)(T:Txt K mg C):bj P w K mg base CX0 1 f fd ["self","number","told","parts"] (AL K C):=by
 refine F.ok ["self","number","told","parts"] λ b_ A aA s H vs Q E hr h nd=>?_
 obtain⟨x,t,pp,dx,n,c,u,s,d,r,ps,rfl,hx,ht,ntx,hp,k⟩:=h;refine⟨_,ab (aN (pv 0) (pv 1) rfl)
  (ab (aN (pv 0) (bK vX (pv 2) am (λ _ _=>rfl)) rfl)
  (ab (aN (pv 0) (bK vX (pv 2) am (λ _ _=>rfl)) rfl)
  (ab (aN (pv 0) (bK vX (pv 2) am (λ _ _=>rfl)) rfl)
  (ab (aN (pv 0) (bK vX (pv 2) am (λ _ _=>rfl)) rfl)
  (ab (aN (pv 0) (bK vX (pv 2) am (λ _ _=>rfl)) rfl)
  (ab (aN (pv 0) (Iy zT rfl (T.bu _ zq_dk) (show bootBuiltins "list"=some (.type "list") by decide+kernel) (aO (pv 3))) rfl)
  (ab (aN (pv 0) (cN (T.i (n:=0) zq_dk) rfl) rfl)
  (ab (aN (pv 0) am rfl)
  (ab (aN (pv 0) am rfl)
  (ab (aN (pv 0) am rfl)
  (ab (aN (pv 0) am rfl)
  (ab (aN (pv 0) am rfl)
  (ab (aN (pv 0) am rfl)
  (ab (aN (pv 0) am rfl)
  (ab (aN (pv 0) am rfl)
  (ab (aN (pv 0) am rfl)
  (ab (aN (pv 0) am rfl)
  (ab (aN (pv 0) am rfl)
  (af (aN (pv 0) am rfl)))))))))))))))))))),?_⟩
 have Dn:∀(o:HO),(aP K (aS H x o) t ([c,u,s,d,r].map V.int)\/e9 K (aS H x o) t ([c,u,s,d,r].map V.int)):=λ o=>by
  rcases ht with h|h
  .rcases h with(h|⟨z,h⟩)|h
   .exact .inl (.inl (.inl (by rw[ag ntx];exact h)))
   .exact .inl (.inl (.inr ⟨z,by rw[ag ntx];exact h⟩))
   .exact .inl (.inr h)
  .rcases h with(h|⟨z,h⟩)|h
   .exact .inr (.inl (.inl (by rw[ag ntx];exact h)))
   .exact .inr (.inl (.inr ⟨z,by rw[ag ntx];exact h⟩))
   .exact .inr (.inr h)
 have rd:∀(o:HO)(i:Nat)(z:Int),([c,u,s,d,r].map V.int)[i]?=some (.int z) ->∀Q':VK,Q' (.int z) (aS H x o) ->rIx K (.ref t) (.int (i:Int)) (aS H x o) Q':=λ o i z hz Q' q=>by
  rcases Dn o with h|h
  .exact .inl ⟨t,_,_,_,rfl,rfl,h,cG hz,q⟩
  .exact .inr (.inl ⟨t,_,_,_,rfl,rfl,h,cG hz,q⟩)
 have VA:H x=some (.bD C.cJ dx (JN.zip [])):=hx;have e0:H=aS H x (.bD C.cJ dx (JN.zip [])):=by
  funext b
  by_cases z:b=x
  .subst z;rw[aa];exact VA
  .rw[ag z]
 refine⟨_,rfl,_,rfl,wF VA T.kK (T.nJ _ zq_dk) bR ?_⟩;rw[bW [] [V.int n] fT rfl rfl];refine⟨_,rfl,rd _ 0 c rfl _ ⟨_,rfl,wF aa T.kK (T.nJ _ zq_dk) bR ?_⟩⟩;rw[bW [V.int n] [V.int n,V.int c] fT rfl rfl,bn];refine⟨_,rfl,rd _ 1 u rfl _ ⟨_,rfl,wF aa T.kK (T.nJ _ zq_dk) bR ?_⟩⟩;rw[bW [V.int n,V.int c] [V.int n,V.int c,V.int u] fT rfl rfl,bn];refine⟨_,rfl,rd _ 2 s rfl _ ⟨_,rfl,wF aa T.kK (T.nJ _ zq_dk) bR ?_⟩⟩;rw[bW [V.int n,V.int c,V.int u] [V.int n,V.int c,V.int u,V.int s] fT rfl rfl,bn];refine⟨_,rfl,rd _ 3 d rfl _ ⟨_,rfl,wF aa T.kK (T.nJ _ zq_dk) bR ?_⟩⟩;rw[bW [V.int n,V.int c,V.int u,V.int s] [V.int n,V.int c,V.int u,V.int s,V.int d] fT rfl rfl,bn];refine⟨_,rfl,rd _ 4 r rfl _ ⟨_,rfl,wF aa T.kK (T.nJ _ zq_dk) bR ?_⟩⟩;rw[bW [V.int n,V.int c,V.int u,V.int s,V.int d] [V.int n,V.int c,V.int u,V.int s,V.int d,V.int r] fT rfl rfl,bn];have hpp:∀(o:HO),aP K (aS H x o) pp (ps.map V.int):=λ o=>by
  have npx:pp≠x\/True:=.inr trivial;rcases hp with(h|⟨z,h⟩)|h
  .exact .inl (.inl (by rw[ag (λ q=>by rw[q,hx]at h;cases h)];exact h))
  .exact .inl (.inr ⟨z,by rw[ag (λ q=>by rw[q,hx]at h;cases h)];exact h⟩)
  .exact .inr h
 refine⟨_,rfl,pp,_,rfl,.inl (hpp _),λ q hq=>?_⟩;have Xz:q≠x:=λ z=>by rw[z,aa]at hq;cases hq
 have hq0:H q=none:=by rw[ag Xz]at hq;exact hq
 refine⟨_,rfl,x,C.cJ,dx,_,rfl,(by rw[ag Xz.symm,aa]),T.kK,T.nJ _ zq_dk,bR,?_⟩;rw[bW [V.int n,V.int c,V.int u,V.int s,V.int d,V.int r] [V.int n,V.int c,V.int u,V.int s,V.int d,V.int r,V.ref q] fT rfl rfl,xt (H:=H) Xz.symm,bn];refine⟨_,rfl,wF aa T.kK (T.nJ _ zq_dk) bR ?_⟩;rw[bW [V.int n,V.int c,V.int u,V.int s,V.int d,V.int r,V.ref q] [V.int n,V.int c,V.int u,V.int s,V.int d,V.int r,V.ref q,V.int 0] fT rfl rfl,bn];refine⟨_,rfl,wF aa T.kK (T.nJ _ zq_dk) bR ?_⟩;rw[bW [V.int n,V.int c,V.int u,V.int s,V.int d,V.int r,V.ref q,V.int 0] [V.int n,V.int c,V.int u,V.int s,V.int d,V.int r,V.ref q,V.int 0,V.int 0] fT rfl rfl,bn];refine⟨_,rfl,wF aa T.kK (T.nJ _ zq_dk) bR ?_⟩;rw[bW [V.int n,V.int c,V.int u,V.int s,V.int d,V.int r,V.ref q,V.int 0,V.int 0] [V.int n,V.int c,V.int u,V.int s,V.int d,V.int r,V.ref q,V.int 0,V.int 0,V.int 0] fT rfl rfl,bn];refine⟨_,rfl,wF aa T.kK (T.nJ _ zq_dk) bR ?_⟩;rw[bW [V.int n,V.int c,V.int u,V.int s,V.int d,V.int r,V.ref q,V.int 0,V.int 0,V.int 0] [V.int n,V.int c,V.int u,V.int s,V.int d,V.int r,V.ref q,V.int 0,V.int 0,V.int 0,V.int 0] fT rfl rfl,bn];refine⟨_,rfl,wF aa T.kK (T.nJ _ zq_dk) bR ?_⟩;rw[bW [V.int n,V.int c,V.int u,V.int s,V.int d,V.int r,V.ref q,V.int 0,V.int 0,V.int 0,V.int 0] [V.int n,V.int c,V.int u,V.int s,V.int d,V.int r,V.ref q,V.int 0,V.int 0,V.int 0,V.int 0,V.int 0] fT rfl rfl,bn];refine⟨_,rfl,wF aa T.kK (T.nJ _ zq_dk) bR ?_⟩;rw[bW [V.int n,V.int c,V.int u,V.int s,V.int d,V.int r,V.ref q,V.int 0,V.int 0,V.int 0,V.int 0,V.int 0] [V.int n,V.int c,V.int u,V.int s,V.int d,V.int r,V.ref q,V.int 0,V.int 0,V.int 0,V.int 0,V.int 0,V.int 0] fT rfl rfl,bn];refine⟨_,rfl,wF aa T.kK (T.nJ _ zq_dk) bR ?_⟩;rw[bW [V.int n,V.int c,V.int u,V.int s,V.int d,V.int r,V.ref q,V.int 0,V.int 0,V.int 0,V.int 0,V.int 0,V.int 0] [V.int n,V.int c,V.int u,V.int s,V.int d,V.int r,V.ref q,V.int 0,V.int 0,V.int 0,V.int 0,V.int 0,V.int 0,V.int 0] fT rfl rfl,bn];refine⟨_,rfl,wF aa T.kK (T.nJ _ zq_dk) bR ?_⟩;rw[bW [V.int n,V.int c,V.int u,V.int s,V.int d,V.int r,V.ref q,V.int 0,V.int 0,V.int 0,V.int 0,V.int 0,V.int 0,V.int 0] [V.int n,V.int c,V.int u,V.int s,V.int d,V.int r,V.ref q,V.int 0,V.int 0,V.int 0,V.int 0,V.int 0,V.int 0,V.int 0,V.int 0] fT rfl rfl,bn];refine⟨_,rfl,wF aa T.kK (T.nJ _ zq_dk) bR ?_⟩;rw[bW [V.int n,V.int c,V.int u,V.int s,V.int d,V.int r,V.ref q,V.int 0,V.int 0,V.int 0,V.int 0,V.int 0,V.int 0,V.int 0,V.int 0] [V.int n,V.int c,V.int u,V.int s,V.int d,V.int r,V.ref q,V.int 0,V.int 0,V.int 0,V.int 0,V.int 0,V.int 0,V.int 0,V.int 0,V.int 0] fT rfl rfl,bn];refine⟨_,rfl,wF aa T.kK (T.nJ _ zq_dk) bR ?_⟩;rw[bW [V.int n,V.int c,V.int u,V.int s,V.int d,V.int r,V.ref q,V.int 0,V.int 0,V.int 0,V.int 0,V.int 0,V.int 0,V.int 0,V.int 0,V.int 0] [V.int n,V.int c,V.int u,V.int s,V.int d,V.int r,V.ref q,V.int 0,V.int 0,V.int 0,V.int 0,V.int 0,V.int 0,V.int 0,V.int 0,V.int 0,V.int 0] fT rfl rfl,bn];refine⟨_,rfl,wF aa T.kK (T.nJ _ zq_dk) bR ?_⟩;rw[bW [V.int n,V.int c,V.int u,V.int s,V.int d,V.int r,V.ref q,V.int 0,V.int 0,V.int 0,V.int 0,V.int 0,V.int 0,V.int 0,V.int 0,V.int 0,V.int 0] [V.int n,V.int c,V.int u,V.int s,V.int d,V.int r,V.ref q,V.int 0,V.int 0,V.int 0,V.int 0,V.int 0,V.int 0,V.int 0,V.int 0,V.int 0,V.int 0,V.int 0] fT rfl rfl,bn];refine⟨_,rfl,wF aa T.kK (T.nJ _ zq_dk) bR ?_⟩;rw[bW [V.int n,V.int c,V.int u,V.int s,V.int d,V.int r,V.ref q,V.int 0,V.int 0,V.int 0,V.int 0,V.int 0,V.int 0,V.int 0,V.int 0,V.int 0,V.int 0,V.int 0] [V.int n,V.int c,V.int u,V.int s,V.int d,V.int r,V.ref q,V.int 0,V.int 0,V.int 0,V.int 0,V.int 0,V.int 0,V.int 0,V.int 0,V.int 0,V.int 0,V.int 0,V.int 0] fT rfl rfl,bn];refine⟨_,rfl,wF aa T.kK (T.nJ _ zq_dk) bR ?_⟩;rw[bW [V.int n,V.int c,V.int u,V.int s,V.int d,V.int r,V.ref q,V.int 0,V.int 0,V.int 0,V.int 0,V.int 0,V.int 0,V.int 0,V.int 0,V.int 0,V.int 0,V.int 0,V.int 0] [V.int n,V.int c,V.int u,V.int s,V.int d,V.int r,V.ref q,V.int 0,V.int 0,V.int 0,V.int 0,V.int 0,V.int 0,V.int 0,V.int 0,V.int 0,V.int 0,V.int 0,V.int 0,V.int 0] fT rfl rfl,bn];exact k q hq0
def AM(p s a b:Int)(la ra:Addr):MV:=⟨p,s,a,b,0,0,0,.bu,la,ra⟩
def AN(C:CA):Sp:=λ vs H Q _=>∃(x dx:Addr)(p s a b:Int),vs=[.ref x,.int p,.int s,.int a,.int b]/\H x=some (.bD C.cM dx [])/\
 ∀la ra,H la=none ->H ra=none ->la≠ra ->Q .bu (aS (aS (aS H la (.aD [])) ra (.aD [])) x (.bD C.cM dx (AM p s a b la ra).fs))
theorem Of(F:v7 K "__init__" "Machine.__init__" n6 f fd)(T:Txt K mg C):bj P w K mg base CX0 1 f fd ["self","policy","slice_ticks","age","boost"] (AN C):=by
 refine F.ok ["self","policy","slice_ticks","age","boost"] λ b_ A aA s H vs Q E hr h nd=>?_
 obtain⟨x,dx,p,s,a,b,rfl,hx,k⟩:=h;refine⟨_,ab (aN (pv 0) (pv 1) rfl) (ab (aN (pv 0) (pv 2) rfl) (ab (aN (pv 0) (pv 3) rfl) (ab (aN (pv 0) (pv 4) rfl) (ab (aN (pv 0) am rfl) (ab (aN (pv 0) am rfl) (ab (aN (pv 0) am rfl) (ab (aN (pv 0) fC rfl) (ab (aN (pv 0) (a_ il) rfl) (af (aN (pv 0) (a_ il) rfl)))))))))),?_⟩
 try dsimp only [bx,Cx.dJ]
 have VA:H x=some (.bD C.cM dx (MN.zip [])):=hx;refine⟨_,rfl,_,rfl,wF VA T.iX (T.nM _ zq_dk) bR ?_⟩;rw[bW [] [V.int p] mI rfl rfl];refine⟨_,rfl,_,rfl,wF aa T.iX (T.nM _ zq_dk) bR ?_⟩;rw[bW [V.int p] [V.int p,V.int s] mI rfl rfl,bn];refine⟨_,rfl,_,rfl,wF aa T.iX (T.nM _ zq_dk) bR ?_⟩;rw[bW [V.int p,V.int s] [V.int p,V.int s,V.int a] mI rfl rfl,bn];refine⟨_,rfl,_,rfl,wF aa T.iX (T.nM _ zq_dk) bR ?_⟩;rw[bW [V.int p,V.int s,V.int a] [V.int p,V.int s,V.int a,V.int b] mI rfl rfl,bn];refine⟨_,rfl,wF aa T.iX (T.nM _ zq_dk) bR ?_⟩;rw[bW [V.int p,V.int s,V.int a,V.int b] [V.int p,V.int s,V.int a,V.int b,V.int 0] mI rfl rfl,bn];refine⟨_,rfl,wF aa T.iX (T.nM _ zq_dk) bR ?_⟩;rw[bW [V.int p,V.int s,V.int a,V.int b,V.int 0] [V.int p,V.int s,V.int a,V.int b,V.int 0,V.int 0] mI rfl rfl,bn];refine⟨_,rfl,wF aa T.iX (T.nM _ zq_dk) bR ?_⟩;rw[bW [V.int p,V.int s,V.int a,V.int b,V.int 0,V.int 0] [V.int p,V.int s,V.int a,V.int b,V.int 0,V.int 0,V.int 0] mI rfl rfl,bn];refine⟨_,rfl,wF aa T.iX (T.nM _ zq_dk) bR ?_⟩;rw[bW [V.int p,V.int s,V.int a,V.int b,V.int 0,V.int 0,V.int 0] [V.int p,V.int s,V.int a,V.int b,V.int 0,V.int 0,V.int 0,V.bu] mI rfl rfl,bn];refine⟨zq_dc,λ la Aq=>?_⟩;have nl:la≠x:=λ z=>by rw[z,aa]at Aq;cases Aq
 have hl0:H la=none:=by rw[ag nl]at Aq;exact Aq
 refine⟨_,rfl,x,C.cM,dx,_,rfl,(by rw[ag nl.symm,aa]),T.iX,T.nM _ zq_dk,bR,?_⟩;rw[bW [V.int p,V.int s,V.int a,V.int b,V.int 0,V.int 0,V.int 0,V.bu] [V.int p,V.int s,V.int a,V.int b,V.int 0,V.int 0,V.int 0,V.bu,V.ref la] mI rfl rfl,xt (H:=H) nl.symm,bn];refine⟨zq_dc,λ ra iP=>?_⟩;have nr:ra≠x:=λ z=>by rw[z,aa]at iP;cases iP
 have XA:ra≠la:=λ z=>by rw[z,ag nl,aa]at iP;cases iP
 have hr0:H ra=none:=by rw[ag nr,ag XA]at iP;exact iP
 refine⟨_,rfl,x,C.cM,dx,_,rfl,(by rw[ag nr.symm,aa]),T.iX,T.nM _ zq_dk,bR,?_⟩;rw[bW [V.int p,V.int s,V.int a,V.int b,V.int 0,V.int 0,V.int 0,V.bu,V.ref la] [V.int p,V.int s,V.int a,V.int b,V.int 0,V.int 0,V.int 0,V.bu,V.ref la,V.ref ra] mI rfl rfl,xt (H:=aS H la (.aD [])) nr.symm,bn];exact k la ra hl0 hr0 XA.symm
def Fy(C:CA):Sp:=λ vs H Q _=>∃(a dj pp:Addr)(J:JV)(ps:List Int),vs=[.ref a]/\H a=some (.bD C.cJ dj J.fs)/\J.parts=pp/\H pp=some (.aD (ps.map V.int))/\
 ∀q pa H',H q=none ->H pa=none ->q≠pa ->ae H H' ->eA C H' q (Fx J.bh J.fR J.urgency J.shares J.dX J.rounds pa) ->H' pa=some (.aD (ps.map V.int)) ->Q (.ref q) H'
theorem RQ(F:bi K "job_anew" wt f fd)(T:Txt K mg C)(D1:tj P w K mg base "Job" C.cJ ["self","number","told","parts"] 1 (AL K C)):bj P w K mg base CX0 3 f fd [dL] (Fy C):=by
 refine F.ok [dL,"told"] λ b_ A aA s H vs Q E hr h nd=>?_
 obtain⟨a,dj,pp,J,ps,rfl,ha,hJp,hpp,k⟩:=h;refine⟨_,ab (bg (i:=1) nd rfl (aH rfl) (fE (dE (ai (pv 0) rfl) (dE (ai (pv 0) rfl) (jG (ai (pv 0) rfl) (ai (pv 0) rfl) (ai (pv 0) rfl))))))
  (af (aw (g_ D1 hr rfl (jG (ai (pv 0) rfl) (pv 1) (ai (pv 0) rfl))))),?_⟩
 try dsimp only [bx,Cx.dJ]
 refine⟨_,rfl,rJ T ha 1 rfl rfl ⟨_,rfl,rJ T ha 2 rfl rfl ⟨_,rfl,rJ T ha 3 rfl rfl ⟨_,rfl,rJ T ha 4 rfl rfl ⟨_,rfl,rJ T ha 5 rfl rfl ⟨(by show(5:Nat)<=2^24;decide),λ t ht=>?_⟩⟩⟩⟩⟩⟩;have s1:=ae.new (o:=.fc ([J.fR,J.urgency,J.shares,J.dX,J.rounds].map V.int)) ht;obtain⟨H1,HJ⟩:=bS (aS H t (.fc ([J.fR,J.urgency,J.shares,J.dX,J.rounds].map V.int)));have EZ:H1 t=some (.fc ([J.fR,J.urgency,J.shares,J.dX,J.rounds].map V.int)):=by rw[HJ];exact aa
 rw[<-HJ]at s1;have Xp:=s1 _ _ ha;have go:qI C.cJ (AL K C) [] E0 (cB (gN K (bQ 0) "number") (cB (bQ 1) (cB (gN K (bQ 0) "parts") ik))) [some (.ref a),some (.ref t)] H1 Q:=by
  refine⟨_,rfl,rJ T Xp 0 rfl rfl ⟨_,rfl,_,rfl,rJ T Xp 6 rfl rfl (λ x dx hx xl jD=>?_)⟩⟩;have sx:=iS (o1:=.own x) (o2:=.bD C.cJ dx []) hx xl;refine⟨x,t,pp,dx,_,_,_,_,_,_,ps,(by rw[hJp];rfl),aa,.inr (e9.of (sx _ _ EZ)),(λ z=>by rw[z,hx]at EZ;cases EZ),aP.of (sx _ _ (s1 _ _ hpp)),λ q hq=>⟨rfl,?_⟩⟩;have hq1:H1 q=none:=ae.bN sx hq;have Xz:q≠x:=λ z=>by rw[z,aa]at hq;cases hq
  refine k x q _ (ae.bN s1 hx) (ae.bN s1 hq1) Xz.symm (s1.trans λ b o e=>?_) ⟨dx,aa⟩ (by rw[ag Xz,aa]);have n1:b≠x:=λ z=>by rw[z,hx]at e;cases e
  have n2:b≠q:=λ z=>by rw[z,hq1]at e;cases e
  have n3:b≠dx:=λ z=>by rw[z,xl]at e;cases e
  rw[ag n1,ag n2,ag n1,ag n3];exact e
 rw[HJ]at go;exact go
theorem RR:uW ({}:Mj):=⟨zq_dc,⟨eN,(MO _).symm⟩,rfl⟩
theorem Og{x:jR}(J:e7 x):e7 (zt x):=⟨J.DU,J.uw,RR,J.parts,(λ z=>by cases z),(λ z=>by cases z),(λ _=>rfl),ia _⟩
theorem zu(m:ax)(p i:Nat)(h:i<m.jobs.length):aX (rZ m p) i=zt (aX m i):=by
 show(m.jobs.map zt).getD i oH=zt (m.jobs.getD i oH);rw[aG,aT,aG,ay h];rfl
theorem oJ(m:ax)(p:Nat):(rZ m p).jobs.length=m.jobs.length:=ak ..
theorem RS{m:ax}(W:jz m)(p:Nat):jz (rZ m p):=by
 refine⟨λ i hi=>?_,RR,λ _=>rfl,by rw[oJ];exact W.len,W.age,rfl⟩;rw[oJ]at hi;rw[zu m p i hi];exact Og (W.job i hi)
theorem fI0:fI ({}:Mj)=0:=by
 unfold fI;exact aaZ _
theorem Do(i:Nat)(pa:Addr)(c u s d r:Nat)(ps:List ZU):bZ i pa {come:=c,urgency:=u,shares:=s,due:=d,rounds:=r,parts:=ps}=Fx i c u s d r pa:=by
 unfold bZ Fx;dsimp only;rw[fI0];rfl
theorem HP(la ra:Addr)(p s a b:Nat)(js:List jR):de la ra {policy:=p,slice:=s,age:=a,boost:=b,begun:=true,jobs:=js}=AM p s a b la ra:=by
 unfold de AM;dsimp only;rw[fI0];rfl
theorem RT(i:Nat)(XB pa:Addr)(x:jR):Fx (bZ i XB x).bh (bZ i XB x).fR (bZ i XB x).urgency (bZ i XB x).shares (bZ i XB x).dX (bZ i XB x).rounds pa=bZ i pa (zt x):=(Do i pa x.come x.urgency x.shares x.due x.rounds x.parts).symm
theorem jr.parts{C:CA}{H:Hp}{A:MA}{m:ax}(h:jr C H A m){j:Nat}(hj:j<m.jobs.length):H (A.ps.getD j 0)=some (.aD (((aX m j).parts.map dO).map V.int)):=by
 obtain⟨e,_⟩:=h.job hj;exact(h.ok.at_ _ (cH e)).2.1
theorem jr.mk'{C:CA}{H:Hp}{A:MA}{m:ax}(hm:dG C H A.ma (de A.la A.ra m))(hl:H A.la=some (.aD (A.js.map V.ref)))(hr:H A.ra=some (.aD ((m.who.map fJ).map V.int)))(nd:A.js.Nodup)(lj:A.js.length=m.jobs.length)(lp:A.ps.length=m.jobs.length)
  (hj:∀i,i<m.jobs.length ->eA C H (A.js.getD i 0) (bZ i (A.ps.getD i 0) (aX m i))/\H (A.ps.getD i 0)=some (.aD (((aX m i).parts.map dO).map V.int))) (ne:A.la≠A.ra) (np:∀pa∈A.ps,pa≠A.ra/\pa≠A.la) (W:jz m) (T:cj C H):jr C H A m:=by
 have ea:=jA (A:=A) (m:=m) lj;refine⟨⟨hm,?_,hr,?_,λ q hq=>?_,ne,?_⟩,W,T,lj,lp⟩
 .have e:((bw A m).js.map λ q=>V.ref q.a)=A.js.map V.ref:=by
   rw[<-ea];unfold bo;rw[bB];rfl
  show H A.la=_;rw[e];exact hl
 .show(bo (bw A m)).Nodup;rw[ea];exact nd
 .obtain⟨i,hi,rfl⟩:=gG hq;have uV:i<m.jobs.length:=by rw[bM]at hi;exact hi
  have eq:(bw A m).js[i]=eF A i (aX m i):=by
   have:=fO (p:=bw A m) (i:=i) hi;rw[fg uV,ay hi]at this;exact cT this
  rw[eq];obtain⟨h1,h2⟩:=hj i uV;have i9:A.ps.getD i 0∈A.ps:=by
   rw[aG,ay (by rw[lp];exact uV)];exact gH _
  exact⟨h1,h2,(np _ i9).1,(np _ i9).2⟩
 .rw[bM];exact W.len
def RU(C:CA)(m:ax)(H1:Hp)(D:Addr)(i:Nat)(H':Hp):Prop:=ae H1 H'/\∃js ps:List Addr,js.length=i/\ps.length=i/\H' D=some (.aD (js.map V.ref))/\js.Nodup/\(∀b∈js,H1 b=none)/\(∀b∈ps,b≠D/\H1 b=none)/\
 ∀j,j<i ->js.getD j 0≠D/\eA C H' (js.getD j 0) (bZ j (ps.getD j 0) (zt (aX m j)))/\H' (ps.getD j 0)=some (.aD (((aX m j).parts.map dO).map V.int))
def HQ(C:CA):Sp:=λ vs H Q _=>∃(A:MA)(m:ax)(p:Nat),vs=[.ref A.ma,nI p]/\jr C H A m/\∀H' A',ae H H' ->jr C H' A' (rZ m p) ->(∀b,jS C A' b ->H b=none) ->Q (.ref A'.ma) H'
theorem Oh(F:bi K "machine_anew" jM f fd)(T:Txt K mg C)(D1:tj P w K mg base "Machine" C.cM ["self","policy","slice_ticks","age","boost"] 1 (AN C))(D2:cF P w K mg base "job_anew" [dL] 3 (Fy C)):bj P w K mg base CX0 4 f fd [b8,"policy"] (HQ C):=by
 refine F.ok [b8,"policy","other",dL] λ b_ A0 aA s H vs Q E hr h nd=>?_
 obtain⟨A,m,p,rfl,M,k⟩:=h;refine⟨_,ab (bg (i:=2) nd rfl (aH rfl) (g_ D1 (hr.bI zq_dc) rfl (dE (pv 1) (jG (ai (pv 0) rfl) (ai (pv 0) rfl) (ai (pv 0) rfl)))))
  (ab (aN (pv 2) (iL (own:=[("job",3)]) (tt:=jE) (te:=tCall (Fy C) [] E0 (cB (bQ 3) ik)) rfl nd (bF (ai (pv 0) rfl)) (bP (by show gW [b8,"policy","other",dL] (aJ jM) _ _=true;decide+kernel)) (λ _ _ _ _ _=>by exact aU (i:=3) nd rfl (aH rfl)) (λ _ _ _ _ _=>by exact di) (λ _ _ _ _ _=>by exact al D2 hr rfl (aO (pv 3)))) rfl)
  (af (aw (pv 2)))),?_⟩
 try dsimp only [bx,Cx.dJ]
 obtain⟨d0,xU⟩:=M.ok.dA;have G5:=M.wf.len;refine⟨_,rfl,_,rfl,A.ma,C.cM,d0,_,_,rfl,xU,T.iX,T.nM _ zq_dk,MV.get _ (k:=1) rfl rfl,_,rfl,A.ma,C.cM,d0,_,_,rfl,xU,T.iX,T.nM _ zq_dk,MV.get _ (k:=2) rfl rfl,_,rfl,A.ma,C.cM,d0,_,_,rfl,xU,T.iX,T.nM _ zq_dk,MV.get _ (k:=3) rfl rfl,λ x dx hx xl jD=>?_⟩;have sx:=iS (o1:=.own x) (o2:=.bD C.cM dx []) hx xl;refine⟨x,dx,_,_,_,_,rfl,aa,λ la ra Aq iP XA=>⟨rfl,?_⟩⟩;have Oi:=ae.bN sx Aq;have JK:=ae.bN sx iP;have nlx:la≠x:=λ z=>by rw[z,aa]at Aq;cases Aq
 have nrx:ra≠x:=λ z=>by rw[z,aa]at iP;cases iP
 generalize HJ:aS (aS (aS (aS (aS H dx (.own x)) x (.bD C.cM dx [])) la (.aD [])) ra (.aD [])) x _=H1;have s1:ae H H1:=λ b o e=>by
  have n1:b≠x:=λ z=>by rw[z,hx]at e;cases e
  have n2:b≠dx:=λ z=>by rw[z,xl]at e;cases e
  have n3:b≠la:=λ z=>by rw[z,Oi]at e;cases e
  have n4:b≠ra:=λ z=>by rw[z,JK]at e;cases e
  rw[<-HJ,ag n1,ag n4,ag n3,ag n1,ag n2];exact e
 obtain⟨mv,Kj⟩:=bS (AM (p:Int) (m.slice:Int) (m.age:Int) (m.boost:Int) la ra);have hx1:H1 x=some (.bD C.cM dx mv.fs):=by rw[<-HJ,aa,Kj];rfl
 have Ww:H1 ra=some (.aD []):=by rw[<-HJ,ag nrx,aa]
 have M1:=M.same s1;obtain⟨d1,qC⟩:=M1.ok.dA;have pj:H1 A.la=some (.aD ((bw A m).js.map λ q=>V.ref q.a)):=M1.ok.aD;refine⟨_,rfl,A.ma,C.cM,d1,_,_,rfl,qC,T.iX,T.nM _ zq_dk,MV.get _ (k:=8) rfl rfl,A.la,rfl,⟨_,aP.of pj⟩,λ D hD=>?_⟩;refine qT (K:=K) (a:=A.la) (xs:=(bw A m).js.map λ q=>V.ref q.a) (λ i H'=>RU C m H1 D i H') ⟨ae.new hD,[],[],rfl,rfl,aa,Ua,(λ b hb=>by cases hb),(λ b hb=>by cases hb),λ j hj=>absurd hj (zk _)⟩ (λ i H' _ q=>aP.of (q.1 _ _ pj)) (λ i y H2 hy q=>?_) (λ H2 q=>?_)
 .obtain⟨s2,js,ps,jl,pl,RG,jnd,jf,pf,jat⟩:=q;have jF:i<m.jobs.length:=by
   have:=(gM.mp hy).1;rwa[ak,bM]at this
  have M2:=M1.same s2;obtain⟨ej,⟨dj,hj⟩⟩:=M2.job jF;rw[aT,ej]at hy;cases hy;refine⟨rfl,_,rfl,aj A i,dj,A.ps.getD i 0,_,_,rfl,hj,rfl,M2.parts jF,λ q pa H4 hq JG nqp s4 hJ hP=>⟨_,s4 _ _ RG,?_,?_⟩⟩
  .rw[ak,jl];exact iY (iY jF G5) zq_dc
  have nqD:q≠D:=λ z=>by rw[z,RG]at hq;cases hq
  have npD:pa≠D:=λ z=>by rw[z,RG]at JG;cases JG
  rw[RT]at hJ;have tr:∀b∈js,H2 b≠none:=λ b hb z=>by
   obtain⟨j,z7,e⟩:=gG hb;obtain⟨_,⟨d,h⟩,_⟩:=jat j ah;rw[aG,ay z7]at h;have h':H2 js[j]=_:=h;rw[e,z]at h';cases h'
  refine⟨gx hD (s2.trans s4),js++[q],ps++[pa],by rw[dc,jl];rfl,by rw[dc,pl];rfl,by rw[aa,dZ];rfl,?_,λ b hb=>?_,λ b hb=>?_,λ j z7=>?_⟩
  .exact Ub.mpr ⟨jnd,by simp,λ a ha b hb=>by rw[cW.mp hb];exact λ z=>tr a ha (z▸hq)⟩
  .rcases kX.mp hb with z|z
   .exact jf b z
   .rw[cW.mp z];exact ae.bN s2 hq
  .rcases kX.mp hb with z|z
   .exact pf b z
   .rw[cW.mp z];exact⟨npD,ae.bN s2 JG⟩
  .by_cases z:j<i
   .have e1:(js++[q]).getD j 0=js.getD j 0:=by rw[aG,Gi ah,aG]
    have e2:(ps++[pa]).getD j 0=ps.getD j 0:=by rw[aG,Gi ah,aG]
    rw[e1,e2];obtain⟨n1,⟨d,h1⟩,h2⟩:=jat j z;have n2:ps.getD j 0≠D:=by
     have i9:ps.getD j 0∈ps:=by
      rw[aG,ay ah];exact gH _
     exact(pf _ i9).1
    exact⟨n1,⟨d,by rw[ag n1];exact s4 _ _ h1⟩,by rw[ag n2];exact s4 _ _ h2⟩
   .have e:j=i:=by omega
    subst e;have e1:(js++[q]).getD j 0=q:=by rw[aG,Gh ah,jl,Dd];rfl
    have e2:(ps++[pa]).getD j 0=pa:=by rw[aG,Gh ah,pl,Dd];rfl
    rw[e1,e2];obtain⟨d,h1⟩:=hJ;exact⟨nqD,⟨d,by rw[ag nqD];exact h1⟩,by rw[ag npD];exact hP⟩
 .obtain⟨s2,js,ps,jl,pl,RG,jnd,jf,pf,jat⟩:=q;rw[ak,bM]at jl pl jat;have HR:=s2 _ _ hx1;refine⟨_,rfl,wM T HR ?_⟩;rw[mv.fU {mv with jobs:=D} (k:=8) rfl rfl];have nDx:D≠x:=λ z=>by rw[z,hx1]at hD;cases hD
  have JL:=s2 _ _ Ww;have adg:D≠ra:=λ z=>by rw[z,Ww]at hD;cases hD
  have sz:ae H (aS H2 x (.bD C.cM dx {mv with jobs:=D}.fs)):=gx hx (s1.trans s2);refine⟨_,rfl,k _ ⟨x,D,ra,js,ps⟩ sz (jr.mk' ⟨dx,?_⟩ (by rw[ag nDx];exact RG) (by rw[ag nrx];exact JL) jnd (by rw[oJ];exact jl) (by rw[oJ];exact pl) (λ i hi=>?_) adg (λ pa JG=>?_) (RS M.wf p) (M.tb.same sz)) (λ b hb=>?_)⟩
  .rw[aa,Kj];show some (HO.bD C.cM dx (AM (p:Int) (m.slice:Int) (m.age:Int) (m.boost:Int) D ra).fs)=some (.bD C.cM dx (de D ra (rZ m p)).fs);rw[show de D ra (rZ m p)=AM (p:Int) (m.slice:Int) (m.age:Int) (m.boost:Int) D ra from HP D ra p m.slice m.age m.boost (m.jobs.map zt)]
  .rw[oJ]at hi;obtain⟨n1,⟨d,h1⟩,h2⟩:=jat i hi;have n2:js.getD i 0≠x:=λ z=>by rw[z]at h1;rw[HR]at h1;injection h1 with h1;injection h1 with _ _ h1;have:=congrArg nA h1;exact absurd this (by show¬(10:Nat)=20;decide)
   have n3:ps.getD i 0≠x:=λ z=>by rw[z,HR]at h2;cases h2
   rw[zu m p i hi];exact⟨⟨d,by rw[ag n2];exact h1⟩,by rw[ag n3];exact h2⟩
  .obtain⟨n1,n2⟩:=pf pa JG;exact⟨λ z=>(by rw[z,Ww]at n2;cases n2),n1⟩
  .rcases hb with z|z|z|z|z
   .rw[z];exact hx
   .rw[z];exact ae.bN s1 hD
   .rw[z];exact JK
   .exact ae.bN s1 (jf b z)
   .exact ae.bN s1 (pf b z).2
def gF(m:ax):List Nat:=(bf m.jobs.length).filter λ i=>(aX m i).stand==.done
theorem Fz(m:ax):(bf m.jobs.length).map (aX m)=m.jobs:=by
 have:=fQ (λ x:jR=>x) m.jobs oH;rw[abj]at this;exact this
theorem tq(m:ax):(gF m).map (aX m)=m.jobs.filter λ x=>x.stand==.done:=by
 conv=>rhs;rw[<-Fz m]
 rw[mw];rfl
def u6(x:jR):Option Int:=if 0<x.due then some ((x.finish:Int) -((x.come:Int)+(x.due:Int)))else none
theorem JM(l:List jR):l.filterMap zw=(l.filter λ x=>x.stand==.done).filterMap u6:=by
 induction l with
 |nil=>rfl
 |cons x l ih=>
  rw[Bp,gZ];have e:zw x=if(x.stand==.done)=true then u6 x else none:=by
   unfold zw Vbtkad.dueOf u6;by_cases h:x.due=0
   .by_cases hs:x.stand=.done<;>simp[h,hs]
   .have hp:0<x.due:=Nat.pos_of_ne_zero h;by_cases hs:x.stand=.done<;>simp[h,hs,hp]
  rw[e];by_cases hs:(x.stand==.done)=true
  .rw[au hs,au hs,Bp];cases u6 x with
   |none=>exact ih
   |some v=>exact congrArg (v::·) ih
  .rw[ao hs,ao hs];exact ih
theorem xu{α β γ:Type}(f:α ->β)(g:β ->Option γ)(l:List α):l.filterMap (λ x=>g (f x))=(l.map f).filterMap g:=by rw[NE];rfl
theorem Wx{α β:Type}(g:α ->Option β)(l:List α)(d:α):(bf l.length).filterMap (λ i=>g (l.getD i d))=l.filterMap g:=by
 rw[xu (λ i=>l.getD i d) g];have:=fQ (λ x:α=>x) l d;rw[abj]at this;rw[this]
theorem AO:∀(l:List Nat)(a:Nat),(l.map λ n:Nat=>(n:Int)).foldl max (a:Int)=((l.foldl max a:Nat):Int)
 |[],a=>rfl
 |x::l,a=>by
  show(l.map λ n:Nat=>(n:Int)).foldl max (max (a:Int) (x:Int))=((l.foldl max (max a x):Nat):Int);rw[<-AO l (max a x)];congr 1;omega
theorem Oj(l:List Nat):Fd (l.map λ n:Nat=>(n:Int)) 0=((l.foldl max 0:Nat):Int):=by
 cases l with
 |nil=>rfl
 |cons x l=>
  show(l.map λ n:Nat=>(n:Int)).foldl max (x:Int)=((l.foldl max (max 0 x):Nat):Int);rw[AO,Nat.zero_max]
theorem Ol(l:List jR):Fd ((l.map λ x=>x.longest).map λ n:Nat=>(n:Int)) 0=(l.map λ x=>(x.longest:Int)).foldl max 0:=by
 rw[Oj,<-AO,bB];rfl
def xw(e:ax):List Int:=[((e.jobs.filter λ x=>x.stand==.done).length:Int),(N6 ((e.jobs.filter λ x=>x.stand==.done).map λ x=>x.finish):Int)]++(Us (xo (e.jobs.filterMap zw))++[(e.jobs.map λ x=>(x.longest:Int)).foldl max 0])
theorem uH(m:ax)(n p:Nat):Ut m n p=xw (jd n (rZ m p)):=rfl
theorem JO{l:List Int}{z:Int}(hz:z∈l)(hm:∀y∈l,y<=z):xo l=some z:=by
 have up:∀(r:List Int)(a:Int),a<=r.foldl max a/\∀y∈r,y<=r.foldl max a:=by
  intro r;induction r with
  |nil=>intro a;exact⟨Int.le_refl _,λ y h=>by cases h⟩
  |cons x r ih=>
   intro a;obtain⟨h1,h2⟩:=ih (max a x);refine⟨abk (Int.le_max_left _ _) h1,λ y hy=>?_⟩;rcases eB.mp hy with rfl|hy
   .exact abk (Int.le_max_right _ _) h1
   .exact h2 y hy
 have adh:∀(r:List Int)(a:Int),r.foldl max a=a\/r.foldl max a∈r:=by
  intro r;induction r with
  |nil=>intro a;exact .inl rfl
  |cons x r ih=>
   intro a;rcases ih (max a x)with h|h
   .by_cases q:a<=x
    .rw[show max a x=x by omega]at h;exact .inr (by rw[qO,show max a x=x by omega,h];exact fM)
    .rw[show max a x=a by omega]at h;exact .inl (by rw[qO,show max a x=a by omega];exact h)
   .exact .inr (ff _ h)
 cases l with
 |nil=>cases hz
 |cons a r=>
  show some (r.foldl max a)=some z;congr 1;obtain⟨h1,h2⟩:=up r a;have le1:r.foldl max a<=z:=by
   rcases adh r a with h|h
   .rw[h];exact hm a fM
   .exact hm _ (ff _ h)
  have le2:z<=r.foldl max a:=by
   rcases eB.mp hz with h|h
   .rw[h];exact h1
   .exact h2 z h
  omega
def Om(C:CA):Sp:=λ vs H Q _=>∃(A:MA)(m:ax)(da:Addr)(is:List Nat),vs=[.ref da]/\jr C H A m/\H da=some (.aD (is.map λ i=>V.ref (aj A i)))/\(∀i∈is,i<m.jobs.length)/\is.length<=100/\qs H (Us (xo ((is.map (aX m)).filterMap u6))) Q
theorem RV(F:bi K "lateness_told" i4 f fd)(T:Txt K mg C):bj P w K mg base CX0 1 f fd ["done"] (Om C):=by
 refine F.ok ["done","found",dL] λ b_ A0 aA s H vs Q E hr h nd=>?_
 obtain⟨A,m,da,is,rfl,M,JA,dC,ic,k⟩:=h;refine⟨_,ab (gq (i:=1) (own:=[("job",2)]) (tt:=pE (tU (zL λ i j=>.bl (decide (j<i))) (gN K (bQ 2) "deadline") (tC (.int 0)))) (te:=tU (zL λ i j=>.int (i -j)) (gN K (bQ 2) "ended") (tU (zL λ i j=>.int (i+j)) (gN K (bQ 2) "comes") (gN K (bQ 2) "deadline"))) rfl nd rfl rfl (iA rfl rfl rfl zq_dk) (bF (pv 0)) (bP (by show gW ["done","found",dL] (aJ i4) _ _=true;decide+kernel)) (λ _ _ _ _ _=>by exact aU (i:=2) nd rfl (aH rfl))
   (λ _ _ _ _ _=>by exact lL (aI kZ (ai (pv 2) rfl) am (aR _))) (λ _ _ _ _ _=>by exact bG gU (ai (pv 2) rfl) (bG eh (ai (pv 2) rfl) (ai (pv 2) rfl))))
  (ab (br (aI dM (aY aW (by rfl) (T.bu _ zq_dk) eX (aO (pv 1))) am (aR _)) (af (aw (a_ (aO am)))) aK)
  (af (aw (a_ (bA am (aY (Vr rfl) rfl (T.bu _ zq_dk) (show bootBuiltins "max"=some (.builtin "max") by decide+kernel) (aO (pv 1)))))))),?_⟩
 try dsimp only [bx,Cx.dJ]
 refine⟨_,rfl,da,rfl,⟨_,aP.of JA⟩,λ D hD=>?_⟩;refine d_ (cu (aP.of JA)) (λ j=>(u6 (aX m (is.getD j 0))).map V.int) hD (by rw[ak];omega) (λ j x H1 H2 Qy Qn hj s1 eG hy hn=>?_) (λ H1 s1 h1=>?_)
 .obtain⟨hx,rfl⟩:=eG;rw[ak]at hj;rw[aT,ay hj]at hx;cases hx;have eg:is.getD j 0=is[j]:=by rw[aG,ay hj];rfl
  obtain⟨_,⟨dj,ho⟩⟩:=M.job (dC _ (gH hj));have Bf:=s1 _ _ ho;obtain⟨J0,E6⟩:=bS (bZ is[j] (A.ps.getD is[j] 0) (aX m is[j]));rw[<-E6]at Bf;refine⟨rfl,_,rfl,rJ T Bf 4 rfl rfl ⟨_,_,rfl,rfl,_,rfl,?_⟩⟩;have ed:J0.dX=(((aX m is[j]).due:Nat):Int):=by rw[E6];rfl
  by_cases c:0<(aX m is[j]).due
  .refine gk (bO (show(0:Int)<J0.dX by rw[ed];omega)) ?_;refine⟨_,rfl,rJ T Bf 18 rfl rfl ⟨_,rfl,rJ T Bf 1 rfl rfl ⟨_,rfl,rJ T Bf 4 rfl rfl ⟨_,_,rfl,rfl,_,_,rfl,rfl,hy _ _ ?_ (ae.refl _)⟩⟩⟩⟩;rw[eg];unfold u6;rw[au c,E6];rfl
  .refine gg (gh (show¬(0:Int)<J0.dX by rw[ed];omega)) ?_;refine hn _ ?_ (ae.refl _);rw[eg];unfold u6;rw[ao c];rfl
 .rw[ak]at h1;have e:(bf is.length).filterMap (λ j=>(u6 (aX m (is.getD j 0))).map V.int)=((is.map (aX m)).filterMap u6).map V.int:=by
   rw[Wx (λ i=>(u6 (aX m i)).map V.int) is 0,List.map_filterMap,NE];rfl
  rw[e]at h1;obtain⟨L,hL⟩:=bS ((is.map (aX m)).filterMap u6);rw[<-hL]at h1 k;refine⟨_,rfl,D,_,rfl,.inl (aP.of h1),rfl,_,rfl,?_⟩;rw[gf,ak];by_cases c:L=[]
  .refine gk (by rw[c];rfl) ⟨bE,λ p hp=>?_⟩;rw[c]at k;exact k p _ (ae.bN s1 hp) (s1.trans (ae.new hp)) (by rw[aa];rfl)
  .have RB:0<L.length:=Mw.mpr c;refine gg (by rw[MQ];omega) ?_;refine⟨_,rfl,D,L,rfl,aP.of h1,RB,λ z hz hm=>⟨eM,λ p hp=>?_⟩⟩;rw[JO hz hm]at k;exact k p _ (ae.bN s1 hp) (s1.trans (ae.new hp)) (by rw[aa];rfl)
theorem cj.fU{C:CA}{H:Hp}{la:Addr}{o:HO}{xs:List V}(h:cj C H)(e:H la=some (.aD xs)):cj C (aS H la o):=λ q hq=>(h q hq).fU e
theorem jr.XC{C:CA}{H H':Hp}{A:MA}{m:ax}(h:jr C H A m)(f:o5 C H H')(T:cj C H'):jr C H' A m/\fP C A A H H':=by
 refine⟨⟨?_,h.wf,T,h.lj,h.lp⟩,λ b o e _ n=>f.keep b o e n,f.bu,λ b hb=>.inl hb⟩;have k:∀{b:Addr}{o:HO},H b=some o ->(∀ps,o≠.tP ps) ->H' b=some o:=λ{b o} e n=>f.keep b o e (wI.ne h.tb e n)
 obtain⟨d,hm⟩:=h.ok.dA;refine⟨⟨d,k hm (λ ps z=>by cases z)⟩,k h.ok.aD (λ ps z=>by cases z),k h.ok.run (λ ps z=>by cases z),h.ok.nd,λ q hq=>?_,h.ok.ne,h.ok.len⟩;obtain⟨⟨dj,h1⟩,h2,h3,h4⟩:=h.ok.at_ q hq;exact⟨⟨dj,k h1 (λ ps z=>by cases z)⟩,k h2 (λ ps z=>by cases z),h3,h4⟩
theorem zx{m:ax}{i:Nat}(h:i∈gF m):i<m.jobs.length:=gB.mp (ii.mp h).1
theorem Oo(x:jR):decide (((G1 x.stand:Nat):Int)=3)=(x.stand==.done):=by cases x.stand<;>rfl
theorem Wy(p:Nat ->Bool)(g:Nat ->V)(n:Nat):(bf n).filterMap (λ i=>if p i=true then some (g i)else none)=((bf n).filter p).map g:=by
 induction n with
 |zero=>rfl
 |succ n ih=>
  rw[oz,ih,uA,ND,dZ];congr 1;cases h:p n<;>simp[h]
def Uu(C:CA):Sp:=λ vs H Q _=>∃(A:MA)(m:ax),vs=[.ref A.ma]/\jr C H A m/\qs H (xw m) Q
theorem Wz(F:bi K "outcome" lv f fd)(T:Txt K mg C)(D1:cF P w K mg base "lateness_told" ["done"] 1 (Om C)):bj P w K mg base CX0 2 f fd [b8] (Uu C):=by
 refine F.ok [b8,"done",dL,"told"] λ b_ A0 aA s H vs Q E hr h nd=>?_
 obtain⟨A,m,rfl,M,k⟩:=h;refine⟨_,ab (gq (i:=1) (own:=[("job",2)]) (tt:=pE (tU rEq (gN K (bQ 2) "stands") (tC (.int 3)))) (te:=bQ 2) rfl nd rfl rfl (iA rfl rfl rfl zq_dk) (bF (ai (pv 0) rfl)) (bP (by show gW [b8,"done",dL,"told"] (aJ lv) _ _=true;decide+kernel)) (λ _ _ _ _ _=>by exact aU (i:=2) nd rfl (aH rfl)) (λ _ _ _ _ _=>by exact lL (aI dM (ai (pv 2) rfl) (cN (T.i (n:=3) zq_dk) rfl) (aR _))) (λ _ _ _ _ _=>by exact pv 2))
  (ab (bg (i:=3) nd rfl (aH rfl) (a_ (dE (aY aW (by rfl) (T.bu _ zq_dk) eX (aO (pv 1))) (dE (aY (zV rfl) rfl (T.bu _ zq_dk) (show bootBuiltins "sum"=some (.builtin "sum") by decide+kernel)
   (aO (iL (own:=[("job",2)]) (tt:=jE) (te:=gN K (bQ 2) "ended") rfl nd (bF (pv 1)) (bP (by show gW [b8,"done",dL,"told"] (aJ lv) _ _=true;decide+kernel)) (λ _ _ _ _ _=>by exact aU (i:=2) nd rfl (aH rfl)) (λ _ _ _ _ _=>by exact di) (λ _ _ _ _ _=>by exact ai (pv 2) rfl)))) il))))
  (ab (bz (iK jc pJ rL e_ (pv 3) (aO (al D1 hr rfl (aO (pv 1))))))
  (ab (bz (iK jc yF CC jx (pv 3) (aO (Hx rfl rfl (T.bu _ zq_dk) (iL (own:=[("job",2)]) (tt:=jE) (te:=gN K (bQ 2) "longest_wait") rfl nd (bF (ai (pv 0) rfl)) (bP (by show gW [b8,"done",dL,"told"] (aJ lv) _ _=true;decide+kernel)) (λ _ _ _ _ _=>by exact aU (i:=2) nd rfl (aH rfl)) (λ _ _ _ _ _=>by exact di) (λ _ _ _ _ _=>by exact ai (pv 2) rfl))))))
  (af (aw (pv 3)))))),?_⟩
 try dsimp only [bx,Cx.dJ]
 obtain⟨d0,xU⟩:=M.ok.dA;have hl:=M.ok.aD;have G5:=M.wf.len;refine⟨_,rfl,A.ma,C.cM,d0,_,_,rfl,xU,T.iX,T.nM _ zq_dk,MV.get _ (k:=8) rfl rfl,A.la,rfl,⟨_,aP.of hl⟩,λ da JA=>?_⟩;refine d_ (cu (aP.of hl)) (λ i=>if((aX m i).stand==.done)=true then some (V.ref (aj A i))else none) JA (by rw[ak,bM];omega) (λ i x H1 H2 Qy Qn hi s1 eG hy hn=>?_) (λ H1 s1 h1=>?_)
 .obtain⟨hx,rfl⟩:=eG;rw[ak,bM]at hi;obtain⟨ej,⟨dj,hj⟩⟩:=M.job hi;rw[aT,ej]at hx;cases hx;refine⟨rfl,_,rfl,aj A i,C.cJ,dj,_,_,rfl,s1 _ _ hj,T.kK,T.nJ _ zq_dk,JV.get _ (k:=7) rfl rfl,rfl,_,rfl,?_⟩;rw[gf];have e2:decide ((bZ i (A.ps.getD i 0) (aX m i)).aF=3)=((aX m i).stand==.done):=Oo _;rw[e2];cases hc:(aX m i).stand==.done with
  |true=>exact gk rfl ⟨_,rfl,hy _ _ (by rw[hc];rfl) (ae.refl _)⟩
  |false=>exact gg rfl (hn _ (by rw[hc];rfl) (ae.refl _))
 rw[ak,bM,Wy (λ i=>(aX m i).stand==.done) (λ i=>V.ref (aj A i))]at h1;have fZ:H1 da=some (.aD ((gF m).map λ i=>V.ref (aj A i))):=h1;have M1:=M.same s1;have Xq:(gF m).length<=16:=by
  have:(gF m).length<=m.jobs.length:=by
   unfold gF;exact fB (G6 _ _) (by rw[ko];exact ci _)
  omega
 refine⟨_,rfl,da,_,rfl,.inl (aP.of fZ),_,rfl,da,rfl,⟨_,aP.of fZ⟩,λ D2 RG=>?_⟩;refine d_ (cu (aP.of fZ)) (λ j=>some (nI (aX m ((gF m).getD j 0)).finish)) RG (by rw[ak];omega) (λ j x H2 H3 Qy Qn hj s2 eG hy hn=>?_) (λ H2 s2 h2=>?_)
 .obtain⟨hx,rfl⟩:=eG;rw[ak]at hj;rw[aT,ay hj]at hx;cases hx;have eg:(gF m).getD j 0=(gF m)[j]:=by rw[aG,ay hj];rfl
  obtain⟨_,⟨dj,ho⟩⟩:=M1.job (zx (gH hj));exact⟨rfl,_,rfl,aj A (gF m)[j],C.cJ,dj,_,_,rfl,s2 _ _ ho,T.kK,T.nJ _ zq_dk,JV.get _ (k:=18) rfl rfl,hy _ _ (by rw[eg];rfl) (ae.refl _)⟩
 rw[gA,ak]at h2;have e2:((bf (gF m).length).map λ j=>nI (aX m ((gF m).getD j 0)).finish)=((((m.jobs.filter λ x=>x.stand==.done).map λ x=>x.finish)).map λ n:Nat=>(n:Int)).map V.int:=by
  rw[fQ (λ i=>nI (aX m i).finish) (gF m) 0,<-tq,bB,bB,bB];rfl
 rw[e2]at h2;have ed:(gF m).length=(m.jobs.filter λ x=>x.stand==.done).length:=by rw[<-tq,ak]
 refine⟨D2,_,rfl,aP.of h2,eM,λ tp pw=>?_⟩;rw[ak,vB,ed];have M2:=M1.same s2;obtain⟨d2,s,Ip⟩:∃(a b:Int),[(((m.jobs.filter λ x=>x.stand==.done).length:Nat):Int),((N6 ((m.jobs.filter λ x=>x.stand==.done).map λ x=>x.finish):Nat):Int)]=[a,b]:=⟨_,_,rfl⟩;generalize Ke:aS H2 tp _=H3;have s3:ae H2 H3:=by rw[<-Ke];exact ae.new pw
 have Wd:H3 tp=some (.aD ([d2,s].map V.int)):=by rw[<-Ke,aa,<-Ip];rfl
 have M3:=M2.same s3;refine⟨_,rfl,.inl ⟨rfl,_,aP.of Wd⟩,_,rfl,A,m,da,gF m,rfl,M3,s3 _ _ (s2 _ _ fZ),λ i hi=>zx hi,ah,λ p4 H4 hp4 s4 h4=>?_⟩;rw[tq,<-JM]at h4;obtain⟨L,hL⟩:=bS (Us (xo (m.jobs.filterMap zw)));have hLl:L.length<=2:=by
  rw[hL];cases xo (m.jobs.filterMap zw)with
  |none=>show 1<=2;decide
  |some z=>show 2<=2;decide
 rw[<-hL]at h4;have T6:=s4 _ _ Wd;refine⟨tp,p4,_,_,rfl,rfl,T6,h4,?_,?_⟩
 .rw[ak,ak];show 2+L.length<=2^24;omega
 generalize Uv:aS H4 tp _=H5;have Wu:H5 tp=some (.aD (([d2,s]++L).map V.int)):=by rw[<-Uv,aa,dZ]
 have s5:ae H2 H5:=by rw[<-Uv];exact gx pw (s3.trans s4)
 have M5:=M2.same s5;obtain⟨d5,Xt⟩:=M5.ok.dA;have hl5:=M5.ok.aD;refine⟨_,rfl,.inl ⟨rfl,_,aP.of Wu⟩,_,rfl,A.ma,C.cM,d5,_,_,rfl,Xt,T.iX,T.nM _ zq_dk,MV.get _ (k:=8) rfl rfl,A.la,rfl,⟨_,aP.of hl5⟩,λ D6 hD6=>?_⟩;refine d_ (cu (aP.of hl5)) (λ i=>some (nI (m.jobs.getD i oH).longest)) hD6 (by rw[ak,bM];omega) (λ i x H6 H7 Qy Qn hi s6 eG hy hn=>?_) (λ H6 s6 h6=>?_)
 .obtain⟨hx,rfl⟩:=eG;rw[ak,bM]at hi;obtain⟨ej,⟨dj,hj⟩⟩:=M5.job hi;rw[aT,ej]at hx;cases hx;exact⟨rfl,_,rfl,aj A i,C.cJ,dj,_,_,rfl,s6 _ _ hj,T.kK,T.nJ _ zq_dk,JV.get _ (k:=19) rfl rfl,hy _ _ rfl (ae.refl _)⟩
 rw[gA,ak,bM,fQ (λ x:jR=>nI x.longest)]at h6;have e6:(m.jobs.map λ x=>nI x.longest)=((m.jobs.map λ x=>x.longest).map λ n:Nat=>(n:Int)).map V.int:=by rw[bB,bB];rfl
 rw[e6]at h6;have ht6:=s6 _ _ Wu;refine⟨D6,_,rfl,aP.of h6,tp,_,_,rfl,rfl,ht6,?_,?_⟩
 .rw[ak,dc];show 2+L.length<2^24;omega
 rw[Ol];have sz:ae H2 (aS H6 tp (.aD (([d2,s]++L).map V.int++[V.int ((m.jobs.map λ x=>(x.longest:Int)).foldl max 0)]))):=gx pw (s5.trans s6);refine⟨_,rfl,k tp _ (ae.bN (s1.trans s2) pw) ((s1.trans s2).trans sz) ?_⟩;rw[aa];unfold xw;rw[Ip,<-hL,<-Gq,dZ (l₁:=[d2,s]++L)];rfl
def jv(m:ax)(n i:Nat):List Int:=(bf i).flatMap (Ut m n)
theorem r6(m:ax)(n i:Nat):jv m n (i+1)=jv m n i++Ut m n i:=by
 unfold jv;rw[uA,GD];simp
theorem xx(e:ax):(xw e).length<=5:=by
 unfold xw;cases xo (e.jobs.filterMap zw)with
 |none=>show 4<=5;decide
 |some z=>show 5<=5;decide
theorem oK(m:ax)(n:Nat):∀i,(jv m n i).length<=5*i
 |0=>ci _
 |i+1=>by
  rw[r6,dc,uH];have:=oK m n i;have:=xx (jd n (rZ m i));omega
def Op(C:CA):Sp:=λ vs H Q _=>∃(A:MA)(m:ax)(n:Nat),vs=[.ref A.ma,nI n]/\jr C H A m/\n<=400/\∀p H',H p=none ->o5 C H H' ->cj C H' ->H' p=some (.aD ((jv m n 6).map V.int)) ->Q (.ref p) H'
theorem RW(F:bi K "outcomes" wu f fd)(T:Txt K mg C)(U:cQ K mg)(D1:cF P w K mg base "machine_anew" [b8,"policy"] 4 (HQ C))(D2:cF P w K mg base "run_until_over" [b8,"most"] 10 (E8 C))(D3:cF P w K mg base "outcome" [b8] 2 (Uu C)):bj P w K mg base CX0 11 f fd [b8,"most"] (Op C):=by
 refine F.ok [b8,"most","told","policy","other"] λ b_ A0 aA s H vs Q E hr h nd=>?_
 obtain⟨A,m,n,rfl,M,hn,k⟩:=h;refine⟨_,ab (bg (i:=2) nd rfl (aH rfl) (a_ il))
  (ab (ee eY rfl (oT rfl (T.bu _ zq_dk) (aO (cN (cQ.i U (n:=6) zq_dk) rfl))) (aU (i:=3) nd rfl (aH rfl))
   (ab (bg (i:=4) nd rfl (aH rfl) (al D1 (hr.bI zq_dc) rfl (bA (pv 0) (pv 3))))
   (ab (bz (al D2 hr rfl (bA (pv 4) (pv 1))))
   (af (bz (iK jc pJ rL e_ (pv 2) (aO (al D3 (hr.bI zq_dc) rfl (aO (pv 4))))))))))
  (af (aw (pv 2)))),?_⟩
 try dsimp only [bx,Cx.dJ]
 refine⟨zq_dc,λ tp pw=>?_⟩;have s1:=ae.new (o:=.aD []) pw;refine⟨_,rfl,zq_dc,zq_dc,?_⟩;refine kY (lo:=0) (n:=6) (λ i σ H'=>o5 C H H'/\cj C H'/\H' tp=some (.aD ((jv m n i).map V.int))/\∃x y,σ=[some (.ref A.ma),some (nI n),some (.ref tp),x,y]) ⟨o5.same s1,M.tb.same s1,aa,⟨_,_,rfl⟩⟩ (λ i σ H2 hi p=>?_) (λ σ H2 p=>?_)
 .obtain⟨f2,T2,h2,x0,y0,rfl⟩:=p;obtain⟨M2,_⟩:=M.XC f2 T2;refine⟨_,rfl,_,rfl,A,m,i,(by rw[NI];rfl),M2,λ H3 A' s3 M3 fresh=>?_⟩;refine⟨_,rfl,_,rfl,A',rZ m i,n,rfl,M3,(by show 0+n<=50000;omega),λ g H4 hg eu M4 f4=>?_⟩;rw[<-eu]at M4;have nf:∀b o,H2 b=some o ->¬jS C A' b:=λ b o e z=>by rw[fresh b z]at e;cases e
  have h3:=s3 _ _ h2;have h4:H4 tp=some (.aD ((jv m n i).map V.int)):=f4.keep tp _ h3 (nf _ _ h2) (wI.ne M3.tb h3 λ ps z=>by cases z);refine⟨_,rfl,.inl ⟨rfl,_,aP.of h4⟩,_,rfl,A',_,rfl,M4,λ p5 H5 hp5 s5 h5=>?_⟩;have Wu:=s5 _ _ h4;have l1:=oK m n i;have l2:=xx (jd n (rZ m i));refine⟨tp,p5,_,_,rfl,rfl,Wu,h5,?_,⟨λ b o e nt=>?_,λ b eb=>?_⟩,(M4.tb.same s5).fU Wu,?_,⟨_,_,rfl⟩⟩
  .rw[ak,ak];exact fB (Nat.add_le_add l1 l2) (by show 5*i+5<=2^24;omega)
  .have e2:=f2.keep b o e nt;rw[ag (λ z=>by rw[z,pw]at e;cases e)];exact s5 _ _ (f4.keep b o (s3 _ _ e2) (nf _ _ e2) nt)
  .by_cases z:b=tp
   .rw[z,aa]at eb;cases eb
   .rw[ag z]at eb;exact f2.bu b (ae.bN s3 (f4.bu b (ae.bN s5 eb)))
  .rw[aa,r6,dZ,uH]
 .obtain⟨f2,T2,h2,x0,y0,rfl⟩:=p;exact⟨_,rfl,k tp H2 pw f2 T2 h2⟩
def iU(m:ax)(ns row:List Int):ax×List Int:=
 if c7 m (.compare (ns.getD 0 0))=true then cI m (.compare (ns.getD 0 0))else(m,[-2])
theorem FA(F:bi K "compare" y6 f fd)(T:Txt K mg C)(U:cQ K mg)(D1:Jf P w K mg base)(D2:cF P w K mg base "outcomes" [b8,"most"] 11 (Op C)):
  bj P w K mg base CX0 12 f fd [b8,fb,c_] (dg C 1 iU):=by
 refine F.ok [b8,fb,c_] λ b_ A0 aA s H vs Q E hr h nd=>?_
 obtain⟨A,m,na,ra,ns,row,rfl,M,iR,iP,Jj,Jk,bH,uX,mW,k⟩:=h;obtain⟨tr,yf,hR⟩:=U.row ("COMPARE_RANGES",[(1,400)]) zq_dk;have rc:=fh bH;refine⟨_,ab (br (dw (cx (al D1 (hr.bI zq_dc) rfl (bA (pv 1) (b9 (v:=.ref tr) rfl yf rfl))))) (af (aw (a_ (aO (cN (cQ.i U (n:=-2) zq_dk) rfl))))) aK)
  (af (aw (al D2 hr rfl (bA (pv 0) (bK be (pv 1) am (λ _ _=>rfl)))))),?_⟩
 try dsimp only [bx,Cx.dJ]
 refine⟨_,rfl,na,tr,ns,[(1,400)],rfl,aP.of iR,hR H,bH,λ H1 s1=>?_⟩;have hw:withinAll ns [(1,400)]=bJ (ns.getD 0 0) 1 400:=by
  rw[rc];show(bC (ns.getD 0 0) (1,400)&&true)=_;rw[kq];rfl
 have M1:=M.same s1;refine⟨_,rfl,?_⟩;rw[hw];have i9:c7 m (.compare (ns.getD 0 0))=bJ (ns.getD 0 0) 1 400:=rfl;cases hb:bJ (ns.getD 0 0) 1 400 with
 |false=>
  have hg:iU m ns row=(m,[-2]):=by unfold iU;rw[i9,hb];rfl
  rw[hg]at k;refine⟨bE,λ p hp=>?_⟩;exact k p _ A rfl (M1.same (ae.new hp)) (fP.new (fP.same s1) hp) (ae.bN s1 hp) (bL M1 hp) (by rw[aa];rfl)
 |true=>
  obtain⟨b1,b2⟩:1<=ns.getD 0 0/\ns.getD 0 0<=400:=by
   unfold bJ at hb;simpa using hb
  obtain⟨n,hn⟩:∃n:Nat,ns.getD 0 0=n:=⟨(ns.getD 0 0).toNat,ah⟩;have hg:iU m ns row=(m,jv m n 6):=by unfold iU;rw[i9,hb,hn];rfl
  rw[hg]at k;have jY:ml (ns.map V.int) (0:Int)=some (nI n):=by
   show _=some (V.int (n:Int));rw[<-hn];exact cA (k:=0) ah
  refine⟨_,rfl,_,rfl,na,_,_,_,rfl,rfl,aP.of (s1 _ _ iR),jY,A,m,n,rfl,M1,ah,λ p H2 hp f2 T2 h2=>?_⟩;obtain⟨M2,fa⟩:=M1.XC f2 T2;exact k p H2 A rfl M2 ((fP.same s1).trans fa) (ae.bN s1 hp) (bL M1 hp) h2
theorem HS{ns:List Int}(h:ns.length=4):ns=[ns.getD 0 0,ns.getD 1 0,ns.getD 2 0,ns.getD 3 0]:=by
 match ns,h with
 |[a,b,c,d],_=>rfl
theorem AQ{ns:List Int}(h:ns.length=5):ns=[ns.getD 0 0,ns.getD 1 0,ns.getD 2 0,ns.getD 3 0,ns.getD 4 0]:=by
 match ns,h with
 |[a,b,c,d,e],_=>rfl
def AR(ns:List Int):ax:={policy:=(ns.getD 0 0).toNat,slice:=(ns.getD 1 0).toNat,age:=(ns.getD 2 0).toNat,boost:=(ns.getD 3 0).toNat,begun:=true}
def r8(ns:List Int):Bool:=c7 kD (.begin_ (ns.getD 0 0) (ns.getD 1 0) (ns.getD 2 0) (ns.getD 3 0))
def iy(v:V):List (Str×V):=[("machine",v)]
def HU(C:CA)(B:CB):Sp:=λ vs H Q _=>∃(ln na dl:Addr)(v:V)(ns:List Int),vs=[.ref ln,.ref na]/\H ln=some (.bD B.cL dl (iy v))/\H na=some (.aD (ns.map V.int))/\ns.length=4/\cj C H/\
 (r8 ns=false ->qs H [-2] Q)/\
 (r8 ns=true ->∀p H' A,H p=none ->(∀b o,H b=some o ->b≠ln ->H' b=some o) ->(∀b,H' b=none ->H b=none) ->H' ln=some (.bD B.cL dl (iy (.ref A.ma))) ->jr C H' A (AR ns) ->(∀b,jS C A b ->H b=none) ->¬jS C A p ->H' p=some (.aD [V.int 0]) ->Q (.ref p) H')
theorem Oq(F:bi K "begin" GW f fd)(T:Txt K mg C)(TB:iw K B)(U:cQ K mg)(D1:Jf P w K mg base)(D2:tj P w K mg base "Machine" C.cM ["self","policy","slice_ticks","age","boost"] 1 (AN C)):
  bj P w K mg base CX0 3 f fd [SI,fb] (HU C B):=by
 refine F.ok [SI,fb] λ b_ A0 aA s H vs Q E hr h nd=>?_
 obtain⟨ln,na,dl,v,ns,rfl,WA,iR,bH,Tb,k0,k1⟩:=h;obtain⟨tr,yf,hR⟩:=U.row ("BEGIN_RANGES",[(0,5),(1,20),(0,20),(0,100)]) zq_dk;have rc:=HS bH;refine⟨_,ab (br (dw (cx (al D1 hr rfl (bA (pv 1) (b9 (v:=.ref tr) rfl yf rfl))))) (af (aw (a_ (aO (cN (cQ.i U (n:=-2) zq_dk) rfl))))) aK)
  (ab (aN (pv 0) (g_ D2 hr rfl (dE (bK be (pv 1) am (λ _ _=>rfl)) (jG (bK be (pv 1) am (λ _ _=>rfl)) (bK be (pv 1) am (λ _ _=>rfl)) (bK be (pv 1) am (λ _ _=>rfl))))) rfl)
  (af (aw (a_ (aO am))))),?_⟩
 try dsimp only [bx,Cx.dJ]
 refine⟨_,rfl,na,tr,ns,_,rfl,aP.of iR,hR H,bH,λ H1 s1=>⟨_,rfl,?_⟩⟩;have hw:withinAll ns [(0,5),(1,20),(0,20),(0,100)]=r8 ns:=by
  unfold r8
  conv=>lhs;rw[rc]
  show(bC _ (0,5)&&(bC _ (1,20)&&(bC _ (0,20)&&(bC _ (0,100)&&true))))=_;rw[kq];rfl
 rw[hw];cases hb:r8 ns with
 |false=>
  refine gk rfl ⟨bE,λ p hp=>?_⟩;exact k0 hb p _ (ae.bN s1 hp) (s1.trans (ae.new hp)) (by rw[aa];rfl)
 |true=>
  refine gg rfl ?_;have j7:(bJ (ns.getD 0 0) 0 5&&(bJ (ns.getD 1 0) 1 20&&(bJ (ns.getD 2 0) 0 20&&bJ (ns.getD 3 0) 0 100)))=true:=hb;unfold bJ at j7;simp only[bq,bc]at j7;have g9:aP K H1 na (ns.map V.int):=aP.of (s1 _ _ iR);refine⟨_,rfl,na,_,_,_,rfl,rfl,g9,cA (k:=0) ah,_,rfl,na,_,_,_,rfl,rfl,g9,cA (k:=1) ah,_,rfl,na,_,_,_,rfl,rfl,g9,cA (k:=2) ah,_,rfl,na,_,_,_,rfl,rfl,g9,cA (k:=3) ah,λ x dx hx xl jD=>?_⟩;have sx:=iS (o1:=.own x) (o2:=.bD C.cM dx []) hx xl;refine⟨x,dx,_,_,_,_,rfl,aa,λ la ra Aq iP XA=>⟨rfl,?_⟩⟩;have Oi:=ae.bN sx Aq;have JK:=ae.bN sx iP;have nlx:la≠x:=λ z=>by rw[z,aa]at Aq;cases Aq
  have nrx:ra≠x:=λ z=>by rw[z,aa]at iP;cases iP
  generalize wX:aS (aS (aS (aS (aS H1 dx (.own x)) x (.bD C.cM dx [])) la (.aD [])) ra (.aD [])) x _=H2;have s2:ae H1 H2:=λ b o e=>by
   have n1:b≠x:=λ z=>by rw[z,hx]at e;cases e
   have n2:b≠dx:=λ z=>by rw[z,xl]at e;cases e
   have n3:b≠la:=λ z=>by rw[z,Oi]at e;cases e
   have n4:b≠ra:=λ z=>by rw[z,JK]at e;cases e
   rw[<-wX,ag n1,ag n4,ag n3,ag n1,ag n2];exact e
  have HR:H2 x=some (.bD C.cM dx (AM (ns.getD 0 0) (ns.getD 1 0) (ns.getD 2 0) (ns.getD 3 0) la ra).fs):=by rw[<-wX,aa]
  have JB:H2 la=some (.aD []):=by rw[<-wX,ag nlx,ag XA,aa]
  have JL:H2 ra=some (.aD []):=by rw[<-wX,ag nrx,aa]
  have mZ:=s1.trans s2;have Ot:=mZ _ _ WA;refine⟨_,rfl,wF Ot TB.clL (TB.nL _ zq_dk) bR ?_⟩;have ep:eE ("machine":Str) (V.ref x) (iy v)=iy (.ref x):=rfl;rw[ep];have nl:∀{b:Addr}{o:HO},H2 b=some o ->H1 b=none ->b≠ln:=λ{b o} _ h z=>by rw[z,s1 _ _ WA]at h;cases h
  have nxl:=nl HR hx;have nll:=nl JB Oi;have nrl:=nl JL JK;refine⟨bE,λ p hp=>?_⟩;have ou:H2 p=none/\p≠ln:=by
   have n:p≠ln:=λ z=>by rw[z,aa]at hp;cases hp
   rw[ag n]at hp;exact⟨hp,n⟩
  have npx:x≠p:=λ z=>by rw[z,ou.1]at HR;cases HR
  have abl:la≠p:=λ z=>by rw[z,ou.1]at JB;cases JB
  have abm:ra≠p:=λ z=>by rw[z,ou.1]at JL;cases JL
  have Tz:cj C (aS (aS H2 ln (.bD B.cL dl (iy (.ref x)))) p (.aD [V.int 0])):=by
   refine cj.same (cj.BE (Tb.same mZ) Ot (λ ps z=>by cases z) (λ c q z=>by cases z) λ b o e n=>by rw[ag n];exact e) (ae.new hp)
  have e0:((ns.getD 0 0).toNat:Int)=ns.getD 0 0:=by omega
  have e1:((ns.getD 1 0).toNat:Int)=ns.getD 1 0:=by omega
  have e2:((ns.getD 2 0).toNat:Int)=ns.getD 2 0:=by omega
  have e3:((ns.getD 3 0).toNat:Int)=ns.getD 3 0:=by omega
  have W:jz (AR ns):=⟨λ i hi=>absurd hi (zk _),RR,λ _=>rfl,ia _,(by show(ns.getD 2 0).toNat<=20;omega),rfl⟩;have Mz:jr C (aS (aS H2 ln (.bD B.cL dl (iy (.ref x)))) p (.aD [V.int 0])) ⟨x,la,ra,[],[]⟩ (AR ns):=by
   refine jr.mk' ⟨dx,?_⟩ ?_ ?_ Ua rfl rfl (λ i hi=>absurd hi (zk _)) XA (λ pa JG=>by cases JG) W Tz
   .rw[ag npx,ag nxl,HR];show some (HO.bD C.cM dx (AM _ _ _ _ la ra).fs)=some (.bD C.cM dx (de la ra (AR ns)).fs);have:de la ra (AR ns)=AM (ns.getD 0 0) (ns.getD 1 0) (ns.getD 2 0) (ns.getD 3 0) la ra:=by
     unfold AR;rw[HP la ra (ns.getD 0 0).toNat (ns.getD 1 0).toNat (ns.getD 2 0).toNat (ns.getD 3 0).toNat [],e0,e1,e2,e3]
    rw[this]
   .show aS (aS H2 ln _) p _ la=_;rw[ag abl,ag nll,JB];rfl
   .show aS (aS H2 ln _) p _ ra=_;rw[ag abm,ag nrl,JL];rfl
  have ft:∀b,jS C ⟨x,la,ra,[],[]⟩ b ->b=x\/b=la\/b=ra:=λ b h=>by
   rcases h with z|z|z|z|z
   .exact .inl z
   .exact .inr (.inl z)
   .exact .inr (.inr z)
   .cases z
   .cases z
  refine k1 hb p _ ⟨x,la,ra,[],[]⟩ (ae.bN mZ ou.1) (λ b o e n=>?_) (λ b eb=>?_) ?_ Mz (λ b h=>?_) (λ h=>?_) aa
  .have e2:=mZ _ _ e;rw[ag (λ z=>by rw[z,ou.1]at e2;cases e2),ag n];exact e2
  .by_cases z1:b=p
   .rw[z1];exact ae.bN mZ ou.1
   .rw[ag z1]at eb;by_cases z2:b=ln
    .rw[z2,aa]at eb;cases eb
    .rw[ag z2]at eb;exact ae.bN mZ eb
  .rw[ag ou.2.symm,aa]
  .rcases ft b h with z|z|z
   .rw[z];exact ae.bN s1 hx
   .rw[z];exact ae.bN s1 Oi
   .rw[z];exact ae.bN s1 JK
  .rcases ft p h with z|z|z
   .exact npx z.symm
   .exact abl z.symm
   .exact abm z.symm
def AS(m:ax)(ns row:List Int):ax×List Int:=
 if c7 m (.job (ns.getD 0 0) (ns.getD 1 0) (ns.getD 2 0) (ns.getD 3 0) (ns.getD 4 0) row)=true then cI m (.job (ns.getD 0 0) (ns.getD 1 0) (ns.getD 2 0) (ns.getD 3 0) (ns.getD 4 0) row)else(m,[-2])
def r9(ns row:List Int):jR:={come:=(ns.getD 0 0).toNat,urgency:=(ns.getD 1 0).toNat,shares:=(ns.getD 2 0).toNat,due:=(ns.getD 3 0).toNat,rounds:=(ns.getD 4 0).toNat,parts:=row.map abn}
theorem xy{m:ax}{x:jR}{i:Nat}(h:i<m.jobs.length):aX {m with jobs:=m.jobs++[x]} i=aX m i:=by
 show(m.jobs++[x]).getD i oH=m.jobs.getD i oH;rw[aG,Gi h,aG]
theorem xz{m:ax}{x:jR}:aX {m with jobs:=m.jobs++[x]} m.jobs.length=x:=by
 show(m.jobs++[x]).getD m.jobs.length oH=x;rw[aG,Gh (ci _),Dd];rfl
theorem r_{l:List Addr}{x:Addr}{i:Nat}(h:i<l.length):(l++[x]).getD i 0=l.getD i 0:=by rw[aG,Gi h,aG]
theorem se{l:List Addr}{x:Addr}:(l++[x]).getD l.length 0=x:=by rw[aG,Gh (ci _),Dd];rfl
theorem RX{ns row:List Int}(h1:1<=ns.getD 2 0)(h2:ns.getD 2 0<=100)(h3:0<=ns.getD 1 0)(h4:ns.getD 1 0<=9)(hp:Ou row=true):e7 (r9 ns row):=
 ⟨(by show 1<=(ns.getD 2 0).toNat;omega),⟨(by show(ns.getD 2 0).toNat<=100;omega),(by show(ns.getD 1 0).toNat<=9;omega)⟩,RR,NG hp,(λ z=>by cases z),(λ z=>by cases z),(λ _=>rfl),ia _⟩
theorem RY{m:ax}{x:jR}(W:jz m)(J:e7 x)(h:m.jobs.length<16):jz {m with jobs:=m.jobs++[x]}:=by
 refine⟨λ i hi=>?_,W.floor,W.QO,(by show(m.jobs++[x]).length<=16;rw[dc];show m.jobs.length+1<=16;omega),W.age,W.who⟩;have uV:i<(m.jobs++[x]).length:=hi;rw[dc]at uV;by_cases z:i<m.jobs.length
 .rw[xy z];exact W.job i z
 .have e:i=m.jobs.length:=by
   have:[x].length=1:=rfl;omega
  subst e;rw[xz];exact J
theorem Ov(F:bi K "tell_job" ww f fd)(T:Txt K mg C)(U:cQ K mg)(D1:Jf P w K mg base)(D2:cF P w K mg base "are_parts" [c_] 2 (Hl K))(D3:tj P w K mg base "Job" C.cJ ["self","number","told","parts"] 1 (AL K C)):
  bj P w K mg base CX0 3 f fd [b8,fb,c_] (dg C 5 AS):=by
 refine F.ok [b8,fb,c_,"number"] λ b_ A0 aA s H vs Q E hr h nd=>?_
 obtain⟨A,m,na,ra,ns,row,rfl,M,iR,iP,Jj,Jk,bH,uX,mW,k⟩:=h;obtain⟨tr,yf,hR⟩:=U.row ("JOB_RANGES",[(0,500),(0,9),(1,100),(0,1000),(1,10)]) zq_dk;have rc:=AQ bH;refine⟨_,ab (br (PW.pt (tT (dw (cx (al D1 hr rfl (bA (pv 1) (b9 (v:=.ref tr) rfl yf rfl))))) (m_ (dw (cx (al D2 hr rfl (aO (pv 2)))))))) (af (aw (a_ (aO (cN (cQ.i U (n:=-2) zq_dk) rfl))))) aK)
  (ab (bg (i:=3) nd rfl (aH rfl) (aY aW (by rfl) (T.bu _ zq_dk) eX (aO (ai (pv 0) rfl))))
  (ab (br (aI Bv (pv 3) (cN (cQ.i U (n:=16) zq_dk) rfl) (aR _)) (af (aw (a_ (aO (cN (cQ.i U (n:=-3) zq_dk) rfl))))) aK)
  (ab (br (aI tV (bK be (pv 1) am (λ _ _=>rfl)) (ai (pv 0) rfl) (aR _)) (af (aw (a_ (aO (cN (cQ.i U (n:=-4) zq_dk) rfl))))) aK)
  (ab (bz (iK jc yF CC jx (ai (pv 0) rfl) (aO (g_ D3 hr rfl (jG (pv 3) (pv 1) (pv 2))))))
  (af (aw (a_ (aO (pv 3))))))))),?_⟩
 try dsimp only [bx,Cx.dJ]
 refine⟨_,rfl,na,tr,ns,_,rfl,aP.of iR,hR H,bH,λ H1 s1=>⟨_,rfl,?_⟩⟩;obtain⟨rg,hrg⟩:=bS ((bJ (ns.getD 0 0) 0 500&&(bJ (ns.getD 1 0) 0 9&&(bJ (ns.getD 2 0) 1 100&&(bJ (ns.getD 3 0) 0 1000&&bJ (ns.getD 4 0) 1 10)))));have hw:withinAll ns [(0,500),(0,9),(1,100),(0,1000),(1,10)]=rg:=by
  rw[hrg]
  conv=>lhs;rw[rc]
  show(bC _ (0,500)&&(bC _ (0,9)&&(bC _ (1,100)&&(bC _ (0,1000)&&(bC _ (1,10)&&true)))))=_;rw[kq];rfl
 have i9:c7 m (.job (ns.getD 0 0) (ns.getD 1 0) (ns.getD 2 0) (ns.getD 3 0) (ns.getD 4 0) row)=(rg&&Ou row):=by
  rw[hrg];show(bJ (ns.getD 0 0) 0 500&&(bJ (ns.getD 1 0) 0 9&&(bJ (ns.getD 2 0) 1 100&&(bJ (ns.getD 3 0) 0 1000&&(bJ (ns.getD 4 0) 1 10&&Ou row)))))=_;simp only[zm]
 have M1:=M.same s1;rw[hw];have ref:AS m ns row=(m,[-2]) ->∀p,H1 p=none ->Q (.ref p) (aS H1 p (.aD [V.int (-2)])):=λ hg p hp=>by
  rw[hg]at k;exact k p _ A rfl (M1.same (ae.new hp)) (fP.new (fP.same s1) hp) (ae.bN s1 hp) (bL M1 hp) (by rw[aa];rfl)
 cases hb:rg with
 |false=>
  refine gk rfl (gk rfl ⟨bE,ref ?_⟩);unfold AS;rw[i9,hb];rfl
 |true=>
 refine gg rfl ?_;refine⟨_,rfl,ra,row,rfl,aP.of (s1 _ _ iP),_,rfl,?_⟩;rw[Nb];cases hpk:Ou row with
 |false=>
  refine gk rfl ⟨bE,ref ?_⟩;unfold AS;rw[i9,hb,hpk];rfl
 |true=>
 refine gg rfl ?_;have hg:AS m ns row=cI m (.job (ns.getD 0 0) (ns.getD 1 0) (ns.getD 2 0) (ns.getD 3 0) (ns.getD 4 0) row):=by
  unfold AS;rw[i9,hb,hpk];rfl
 rw[hg]at k;rw[hb]at hrg;have abo:=hrg.symm;unfold bJ at abo;simp only[bq,bc]at abo;obtain⟨d1,qC⟩:=M1.ok.dA;have pj:=M1.ok.aD;have G5:=M.wf.len;have hd:cI m (.job (ns.getD 0 0) (ns.getD 1 0) (ns.getD 2 0) (ns.getD 3 0) (ns.getD 4 0) row)=if 16<=m.jobs.length then(m,[-3])else if(ns.getD 0 0).toNat<m.now then(m,[-4])else({m with jobs:=m.jobs++[r9 ns row]},[(m.jobs.length:Int)]):=rfl
 rw[hd]at k;refine⟨_,rfl,A.ma,C.cM,d1,_,_,rfl,qC,T.iX,T.nM _ zq_dk,MV.get _ (k:=8) rfl rfl,_,_,rfl,.inl (aP.of pj),?_⟩;rw[ak,bM];refine⟨_,rfl,_,_,rfl,rfl,_,rfl,?_⟩;have abp:∀(z:Int),(∀p H' A',A'.ma=A.ma ->jr C H' A' m ->fP C A A' H H' ->H p=none ->¬jS C A' p ->H' p=some (.aD ([z].map V.int)) ->Q (.ref p) H') ->∀p,H1 p=none ->Q (.ref p) (aS H1 p (.aD [V.int z])):=λ z kk p hp=>kk p _ A rfl (M1.same (ae.new hp)) (fP.new (fP.same s1) hp) (ae.bN s1 hp) (bL M1 hp) (by rw[aa];rfl)
 by_cases c1:16<=m.jobs.length
 .rw[au c1]at k;exact gk (bO (show(16:Int)<=(m.jobs.length:Int) by omega)) ⟨bE,abp (-3) k⟩
 refine gg (gh (show¬(16:Int)<=(m.jobs.length:Int) by omega)) ?_;rw[ao c1]at k;refine⟨_,rfl,na,_,_,_,rfl,rfl,aP.of (s1 _ _ iR),cA (k:=0) ah,_,rfl,A.ma,C.cM,d1,_,_,rfl,qC,T.iX,T.nM _ zq_dk,MV.get _ (k:=4) rfl rfl,_,_,rfl,rfl,_,rfl,?_⟩;by_cases c2:(ns.getD 0 0).toNat<m.now
 .rw[au c2]at k;exact gk (bO (show ns.getD 0 0<(m.now:Int) by omega)) ⟨bE,abp (-4) k⟩
 refine gg (gh (show¬ns.getD 0 0<(m.now:Int) by omega)) ?_;rw[ao c2]at k;refine⟨_,rfl,A.ma,C.cM,d1,_,_,rfl,qC,T.iX,T.nM _ zq_dk,MV.get _ (k:=8) rfl rfl,.inl ⟨rfl,_,aP.of pj⟩,_,rfl,_,rfl,_,rfl,λ x dx hx xl jD=>?_⟩;have sx:=iS (o1:=.own x) (o2:=.bD C.cJ dx []) hx xl;have g9:=s1 _ _ iR;refine⟨x,na,ra,dx,(m.jobs.length:Int),ns.getD 0 0,ns.getD 1 0,ns.getD 2 0,ns.getD 3 0,ns.getD 4 0,row,rfl,aa,.inl (by rw[<-rc];exact aP.of (sx _ _ g9)),(λ z=>by rw[z,hx]at g9;cases g9),aP.of (sx _ _ (s1 _ _ iP)),λ pa JG=>⟨rfl,?_⟩⟩;have RZ:H1 pa=none:=ae.bN sx JG;have npx:pa≠x:=λ z=>by rw[z,aa]at JG;cases JG
 generalize wX:aS (aS (aS (aS H1 dx (.own x)) x (.bD C.cJ dx [])) pa (.aD (row.map V.int))) x _=H2;have s2:ae H1 H2:=λ b o e=>by
  have n1:b≠x:=λ z=>by rw[z,hx]at e;cases e
  have n2:b≠pa:=λ z=>by rw[z,RZ]at e;cases e
  have n3:b≠dx:=λ z=>by rw[z,xl]at e;cases e
  rw[<-wX,ag n1,ag n2,ag n1,ag n3];exact e
 have HR:H2 x=some (.bD C.cJ dx (Fx (m.jobs.length:Int) (ns.getD 0 0) (ns.getD 1 0) (ns.getD 2 0) (ns.getD 3 0) (ns.getD 4 0) pa).fs):=by rw[<-wX,aa]
 have WB:H2 pa=some (.aD (row.map V.int)):=by rw[<-wX,ag npx,aa]
 have hJ:Fx (m.jobs.length:Int) (ns.getD 0 0) (ns.getD 1 0) (ns.getD 2 0) (ns.getD 3 0) (ns.getD 4 0) pa=bZ m.jobs.length pa (r9 ns row):=by
  unfold r9;rw[Do,show((ns.getD 0 0).toNat:Int)=ns.getD 0 0 by omega,show((ns.getD 1 0).toNat:Int)=ns.getD 1 0 by omega,show((ns.getD 2 0).toNat:Int)=ns.getD 2 0 by omega,show((ns.getD 3 0).toNat:Int)=ns.getD 3 0 by omega,show((ns.getD 4 0).toNat:Int)=ns.getD 4 0 by omega]
 rw[hJ]at HR;have M2:=M1.same s2;obtain⟨d2,DQ⟩:=M2.ok.dA;have ea:((bw A m).js.map λ q=>V.ref q.a)=A.js.map V.ref:=by
  rw[<-jA (A:=A) (m:=m) M.lj];unfold bo;rw[bB];rfl
 have mX:H2 A.la=some (.aD (A.js.map V.ref)):=by rw[<-ea];exact M2.ok.aD
 refine⟨A.la,A.js.map V.ref,V.ref x,rfl,rfl,mX,?_,?_⟩
 .rw[ak,M.lj];exact li G5 zq_dc
 generalize Ke:aS H2 A.la _=H3;have nlx:A.la≠x:=λ z=>by rw[z,HR]at mX;cases mX
 have nlp:A.la≠pa:=λ z=>by have h:=s1 _ _ M.ok.aD;rw[show(bw A m).m.jobs=A.la from rfl,z,RZ]at h;cases h
 have JC:H3 A.la=some (.aD ((A.js++[x]).map V.ref)):=by rw[<-Ke,aa,dZ];rfl
 have k3:∀{b:Addr}{o:HO},H2 b=some o ->b≠A.la ->H3 b=some o:=λ{b o} e n=>by rw[<-Ke,ag n];exact e
 refine⟨_,rfl,bE,λ p hp=>?_⟩;have ou:H2 p=none/\p≠A.la:=by
  have n:p≠A.la:=λ z=>by rw[z,JC]at hp;cases hp
  rw[<-Ke,ag n]at hp;exact⟨hp,n⟩
 have s4:=ae.new (o:=.aD [V.int (m.jobs.length:Int)]) hp;have T3:cj C H3:=by rw[<-Ke];exact M2.tb.fU mX
 have J:=RX (ns:=ns) (row:=row) ah ah ah ah hpk;have W':=RY M.wf J ah;have nml:A.ma≠A.la:=λ z=>by rw[z,mX]at DQ;cases DQ
 have nrl:A.ra≠A.la:=M.ok.ne.symm;have Ow:H2 A.ra=some (.aD ((m.who.map fJ).map V.int)):=M2.ok.run;have M4:jr C (aS H3 p (.aD [V.int (m.jobs.length:Int)])) ⟨A.ma,A.la,A.ra,A.js++[x],A.ps++[pa]⟩ {m with jobs:=m.jobs++[r9 ns row]}:=by
  refine jr.mk' ⟨d2,s4 _ _ (k3 DQ nml)⟩ (s4 _ _ JC) (s4 _ _ (k3 Ow nrl)) ?_ ?_ ?_ (λ i hi=>?_) M.ok.ne (λ b hb=>?_) W' (T3.same s4)
  .refine Ub.mpr ⟨?_,by simp,λ a ha b hb=>by
    rw[cW.mp hb];exact λ z=>bL M1 hx (.inr (.inr (.inr (.inl (z▸ha)))))⟩
   rw[<-jA (A:=A) (m:=m) M.lj];exact M.ok.nd
  .show(A.js++[x]).length=(m.jobs++[r9 ns row]).length;rw[dc,dc,M.lj];rfl
  .show(A.ps++[pa]).length=(m.jobs++[r9 ns row]).length;rw[dc,dc,M.lp];rfl
  .have uV:i<(m.jobs++[r9 ns row]).length:=hi;rw[dc]at uV;by_cases z:i<m.jobs.length
   .obtain⟨_,⟨dj,hj⟩⟩:=M2.job z;have hpp:=M2.parts z;show eA C _ ((A.js++[x]).getD i 0) (bZ i ((A.ps++[pa]).getD i 0) _)/\_=_;rw[xy z,r_ (by rw[M.lj];exact z),r_ (by rw[M.lp];exact z)];have hq:A.ps.getD i 0≠A.la:=by
     obtain⟨e,_⟩:=M.job z;exact(M.ok.at_ _ (cH e)).2.2.2
    have Jl:A.js.getD i 0≠A.la:=λ q=>by
     have z7:H2 (A.js.getD i 0)=_:=hj;rw[q,mX]at z7;cases z7
    exact⟨⟨dj,s4 _ _ (k3 hj Jl)⟩,s4 _ _ (k3 hpp hq)⟩
   .have e:i=m.jobs.length:=by
     have:[r9 ns row].length=1:=rfl;omega
    subst e;show eA C _ ((A.js++[x]).getD _ 0) (bZ _ ((A.ps++[pa]).getD _ 0) _)/\_=_;rw[xz];have e1:(A.js++[x]).getD m.jobs.length 0=x:=by rw[<-M.lj];exact se
    have e2:(A.ps++[pa]).getD m.jobs.length 0=pa:=by rw[<-M.lp];exact se
    rw[e1,e2];refine⟨⟨dx,s4 _ _ (k3 HR nlx.symm)⟩,?_⟩;show _=some (HO.aD (((row.map abn).map dO).map V.int));rw[Fm];exact s4 _ _ (k3 WB nlp.symm)
  .rcases kX.mp hb with z|z
   .obtain⟨i,hi,rfl⟩:=gG z;have uV:i<m.jobs.length:=by rw[<-M.lp];exact hi
    obtain⟨e,_⟩:=M.job uV;have:=(M.ok.at_ _ (cH e)).2.2;have eg:(eF A i (aX m i)).j.parts=A.ps[i]:=by
     show A.ps.getD i 0=_;rw[aG,ay hi];rfl
    rw[eg]at this;exact this
   .rw[cW.mp z];exact⟨λ q=>(by have h:=s1 _ _ M.ok.run;rw[show(bw A m).m.aB=A.ra from rfl,<-q,RZ]at h;cases h),nlp.symm⟩
 refine k p _ ⟨A.ma,A.la,A.ra,A.js++[x],A.ps++[pa]⟩ rfl M4 ⟨λ b o e n1 n2=>?_,λ b eb=>?_,λ b hb=>?_⟩ (ae.bN (s1.trans s2) ou.1) (λ h=>?_) (by rw[aa];rfl)
 .exact s4 _ _ (k3 (s2 _ _ (s1 _ _ e)) λ z=>n1 (.inr (.inl z)))
 .have e3:H3 b=none:=ae.bN s4 eb;have n:b≠A.la:=λ z=>by rw[z,JC]at e3;cases e3
  rw[<-Ke,ag n]at e3;exact ae.bN (s1.trans s2) e3
 .rcases hb with z|z|z|z|z
  .exact .inl (.inl z)
  .exact .inl (.inr (.inl z))
  .exact .inl (.inr (.inr (.inl z)))
  .rcases kX.mp z with q|q
   .exact .inl (.inr (.inr (.inr (.inl q))))
   .rw[cW.mp q];exact .inr (ae.bN s1 hx)
  .rcases kX.mp z with q|q
   .exact .inl (.inr (.inr (.inr (.inr q))))
   .rw[cW.mp q];exact .inr (ae.bN s1 RZ)
 .rcases h with z|z|z|z|z
  .rw[z]at ou;rw[ou.1]at DQ;cases DQ
  .exact ou.2 z
  .rw[z]at ou;rw[ou.1]at Ow;cases Ow
  .rcases kX.mp z with q|q
   .exact bL M2 ou.1 (.inr (.inr (.inr (.inl q))))
   .rw[cW.mp q]at ou;rw[ou.1]at HR;cases HR
  .rcases kX.mp z with q|q
   .exact bL M2 ou.1 (.inr (.inr (.inr (.inr q))))
   .rw[cW.mp q]at ou;rw[ou.1]at WB;cases WB
def WC(p:Nat):ax ->List Int ->List Int ->ax×List Int:=match p with
 |1=>AS|2=>ot|3=>oy|4=>uy|5=>ku|6=>ox|7=>Av|8=>Aw|9=>ow|10=>vD|11=>iU|_=>oI
def xA(p:Nat):List Int ->List Int ->List Int:=match p with
 |13=>uD|14=>oF|15=>kE|16=>qw|17=>xq|_=>kF
def nbs:List Nat:=[4,5,1,1,1,3,1,0,0,2,0,1,1,0,0,1,0,0,1]
def nb(p:Nat):Nat:=nbs.getD p 0
def oM(p:Nat):Bool:=p==1||decide (13<=p)
def uI(m:ax)(p:Nat)(ns row:List Int):ax×List Int:=
 if p=0 then(if r8 ns=true then(AR ns,[0])else(m,[-2]))
 else if 13<=p then(m,xA p ns row)
 else if m.begun=true then WC p m ns row else(m,[-1])
def sg(p:Nat)(ns row:List Int):List (List Int):=if oM p=true then [(p:Int)::ns,row]else [(p:Int)::ns]
theorem mP{m:ax}{c:Uw}{g:ax×List Int}(ha:Ux c=false)(hg:g=if c7 m c=true then cI m c else(m,[-2])):Dp m c=if m.begun=true then g else(m,[-1]):=by
 unfold Dp;rw[hg];cases hb:m.begun<;>cases hi:c7 m c<;>simp[ha]
theorem tw{m:ax}{c:Uw}{g:List Int}(ha:Ux c=true)(hg:(if c7 m c=true then cI m c else(m,[-2]))=(m,g)):Dp m c=(m,g):=by
 rw[<-hg];unfold Dp;cases hi:c7 m c<;>simp[ha]
theorem l0{ns:List Int}(h:ns.length=0):ns=[]:=aaF h
theorem JP{ns:List Int}(h:ns.length=3):ns=[ns.getD 0 0,ns.getD 1 0,ns.getD 2 0]:=by
 match ns,h with
 |[a,b,c],_=>rfl
theorem XD{α β:Type}(b:Bool)(m:α)(x y:β):(if b=true then(m,x)else(m,y))=(m,if b=true then x else y):=by cases b<;>rfl
theorem HV(m:ax)(p:Nat)(hp:p<=18)(ns row:List Int)(hl:ns.length=nb p):p_ m (lC (sg p ns row))=uI m p ns row:=by
 rcases p with _|_|_|_|_|_|_|_|_|_|_|_|_|_|_|_|_|_|_|p
 .obtain⟨a,b,c,d,rfl⟩:∃a b c d,ns=[a,b,c,d]:=⟨_,_,_,_,HS hl⟩;show Dp m (.begin_ a b c d)=if r8 [a,b,c,d]=true then(AR [a,b,c,d],[0])else(m,[-2])
  have hi:c7 m (.begin_ a b c d)=r8 [a,b,c,d]:=rfl;have hd:cI m (.begin_ a b c d)=(AR [a,b,c,d],[0]):=rfl;unfold Dp;rw[hi,hd];cases r8 [a,b,c,d]<;>simp[Ux]
 .rw[AQ hl];exact mP rfl rfl
 .rw[fh hl];exact mP rfl rfl
 .rw[fh hl];exact mP rfl rfl
 .rw[fh hl];exact mP rfl rfl
 .rw[JP hl];exact mP rfl rfl
 .rw[fh hl];exact mP rfl rfl
 .rw[l0 hl];exact mP rfl rfl
 .rw[l0 hl];exact mP rfl rfl
 .rw[Nj hl];exact mP rfl rfl
 .rw[l0 hl];exact mP rfl rfl
 .rw[fh hl];exact mP rfl rfl
 .rw[fh hl];exact mP rfl rfl
 .rw[l0 hl];exact tw rfl (XD (rV row) m _ _)
 .rw[l0 hl];exact tw rfl (XD (rV row) m _ _)
 .rw[fh hl];exact tw rfl (XD (c7 kD (.demand row (ns.getD 0 0))) m _ _)
 .rw[l0 hl];exact tw rfl (XD (rW row) m _ _)
 .rw[l0 hl];exact tw rfl (XD (rW row) m _ _)
 .rw[fh hl];exact tw rfl (XD (c7 kD (.ranked row (ns.getD 0 0))) m _ _)
 .omega
theorem Dq(m:ax)(j:Nat):(abq m j).begun=m.begun:=by
 unfold abq;dsimp only
 repeat' split
 all_goals rfl
theorem JQ(m:ax)(j:Nat)(x:jR):(abr m j x).begun=m.begun:=by
 unfold abr;dsimp only
 repeat' split
 all_goals rfl
theorem R0(m:ax)(j:Nat):(Uy m j).begun=m.begun:=by
 unfold Uy;dsimp only;rw[Dq];split
 .rw[JQ]
 .rfl
theorem xB{g:ax ->Nat ->ax}(h:∀m i,(g m i).begun=m.begun):∀(l:List Nat)(m:ax),(l.foldl g m).begun=m.begun
 |[],_=>rfl
 |i::l,m=>(xB h l (g m i)).trans (h m i)
theorem Ox(m:ax):(wU m).begun=m.begun:=by
 have ha:(xC (zy m)).begun=m.begun:=by
  have h1:∀m,(xC m).begun=m.begun:=λ m=>by unfold xC;split<;>rfl
  rw[h1];unfold zy;dsimp only;rw[xB (g:=λ b j=>Vbtkad.made b j (aX b j)) (λ _ _=>rfl),xB (g:=Vbtkad.woken) (λ _ _=>rfl)]
 have e:(wU m).begun=(match abt (xC (zy m))with|none=>({xC (zy m)with who:=(xC (zy m)).who++[none],current:=none}:ax)|some j=>Uy (xC (zy m)) j).begun:=rfl;rw[e];cases abt (xC (zy m))with
 |none=>exact ha
 |some j=>exact(R0 _ j).trans ha
theorem tz:∀(n:Nat)(m:ax),(fj n m).begun=m.begun
 |0,_=>rfl
 |n+1,m=>(tz n (wU m)).trans (Ox m)
theorem uJ:∀(n:Nat)(m:ax),∃g,g<=n/\jd n m=fj g m
 |0,m=>⟨0,ci _,rfl⟩
 |n+1,m=>by
  by_cases h:pZ m=true
  .exact⟨0,ia _,w6 h _⟩
  .obtain⟨g,h1,h2⟩:=uJ n (wU m);exact⟨g+1,ah,by rw[w8 h,h2];rfl⟩
theorem JR{m:ax}(W:jz m)(hb:m.begun=true)(hn:m.now<=3000)(p:Nat)(ns row:List Int):(WC p m ns row).1.begun=true/\(WC p m ns row).1.now<=3000:=by
 have base:∀(c:Uw),((cI m c).1.begun=true/\(cI m c).1.now<=3000) ->((if c7 m c=true then cI m c else(m,[-2])).1.begun=true/\(if c7 m c=true then cI m c else(m,[-2])).1.now<=3000):=λ c h=>by
  split
  .exact h
  .exact⟨hb,hn⟩
 have hT:∀n:Int,((cI m (.ticks n)).1.begun=true/\(cI m (.ticks n)).1.now<=3000):=λ n=>by
  show(if wV<m.now+n.toNat then(m,[-5])else(fj n.toNat m,_)).1.begun=true/\(if wV<m.now+n.toNat then(m,[-5])else(fj n.toNat m,_)).1.now<=3000;split
  .exact⟨hb,hn⟩
  .rename_i h
   refine⟨(tz _ _).trans hb,?_⟩;show(fj n.toNat m).now<=3000;rw[(iQ _ W).2];exact Hz h
 have hU:∀n:Int,((cI m (.untilOver n)).1.begun=true/\(cI m (.untilOver n)).1.now<=3000):=λ n=>by
  show(if wV<m.now+n.toNat then(m,[-5])else(jd n.toNat m,_)).1.begun=true/\(if wV<m.now+n.toNat then(m,[-5])else(jd n.toNat m,_)).1.now<=3000;split
  .exact⟨hb,hn⟩
  .rename_i h
   obtain⟨g,g1,g2⟩:=uJ n.toNat m;show(jd n.toNat m).begun=true/\(jd n.toNat m).now<=3000;rw[g2];refine⟨(tz _ _).trans hb,?_⟩;rw[(iQ _ W).2];have:¬3000<m.now+n.toNat:=h;omega
 have hJ:∀a b c d e r,((cI m (.job a b c d e r)).1.begun=true/\(cI m (.job a b c d e r)).1.now<=3000):=λ a b c d e r=>by
  show(if Uz<=m.jobs.length then(m,[-3])else if a.toNat<m.now then(m,[-4])else _).1.begun=true/\(if Uz<=m.jobs.length then(m,[-3])else if a.toNat<m.now then(m,[-4])else _).1.now<=3000;split
  .exact⟨hb,hn⟩
  .split
   .exact⟨hb,hn⟩
   .exact⟨hb,hn⟩
 have hK:∀j,((cI m (.kill j)).1.begun=true/\(cI m (.kill j)).1.now<=3000):=λ j=>by
  show(if gw (aX m j.toNat)=true then(m,[-6])else _).1.begun=true/\(if gw (aX m j.toNat)=true then(m,[-6])else _).1.now<=3000;split<;>exact⟨hb,hn⟩
 have hC:∀j u s,((cI m (.change j u s)).1.begun=true/\(cI m (.change j u s)).1.now<=3000):=λ j u s=>by
  show(if gw (aX m j.toNat)=true then(m,[-6])else _).1.begun=true/\(if gw (aX m j.toNat)=true then(m,[-6])else _).1.now<=3000;split<;>exact⟨hb,hn⟩
 unfold WC;split
 .exact base _ (hJ _ _ _ _ _ _)
 .exact base _ (hT _)
 .exact base _ (hU _)
 .exact base _ (hK _)
 .exact base _ (hC _ _ _)
 .exact base _ ⟨hb,hn⟩
 .exact⟨hb,hn⟩
 .exact⟨hb,hn⟩
 .exact base _ ⟨hb,hn⟩
 .exact⟨hb,hn⟩
 .exact base _ ⟨hb,hn⟩
 .exact base _ ⟨hb,hn⟩
theorem cF.fnv{X:Cx}{x:Str}{ps:List Str}{j k:Nat}{sp:Sp}{f:Addr}(D:cF X.prog X.w X.K X.mg X.base x ps j sp)(hm:X.mg x=some (.ref f))(h:j<=k):FnV X k (.ref f) sp:=by
 obtain⟨g,fd,hg,hk,hb,F⟩:=D;rw[hm]at hg;cases hg;exact⟨f,fd,ps,rfl,hk,hb,F.bI h⟩
structure R6(K:aE)(mg:Str ->Option aq):Prop where
 row:∃t VZ f14 f15 f16 f17 f18,mg "ON_ROW"=some (.ref t)/\mg "once"=some (.ref VZ)/\mg "tight"=some (.ref f14)/\mg "demand"=some (.ref f15)/\mg "again"=some (.ref f16)/\mg "response"=some (.ref f17)/\mg "ranked"=some (.ref f18)/\∀H:Hp,e9 K H t [.ref VZ,.ref f14,.ref f15,.ref f16,.ref f17,.ref f18]
 dA:∃t f1 f2 f3 f4 f5 f6 f7 f8 f9 f10 f11 f12,mg "ON_MACHINE"=some (.ref t)/\mg "tell_job"=some (.ref f1)/\mg "ticks"=some (.ref f2)/\mg "until_over"=some (.ref f3)/\mg "kill"=some (.ref f4)/\mg "change"=some (.ref f5)/\mg "state"=some (.ref f6)/\mg "order"=some (.ref f7)/\mg "sleepers"=some (.ref f8)/\mg "trace"=some (.ref f9)/\mg "totals"=some (.ref f10)/\mg "compare"=some (.ref f11)/\mg "bound"=some (.ref f12)/\∀H:Hp,e9 K H t [.bu,.ref f1,.ref f2,.ref f3,.ref f4,.ref f5,.ref f6,.ref f7,.ref f8,.ref f9,.ref f10,.ref f11,.ref f12]
structure R9(P:dz)(w:c9)(K:aE)(mg:Str ->Option aq)(base:Heap)(C:CA):Prop where
 d13:cF P w K mg base "once" [fb,c_] 7 (kC C 0 uD)
 d14:cF P w K mg base "tight" [fb,c_] 5 (kC C 0 oF)
 d15:cF P w K mg base "demand" [fb,c_] 5 (kC C 1 kE)
 d16:cF P w K mg base "again" [fb,c_] 5 (kC C 0 qw)
 d17:cF P w K mg base "response" [fb,c_] 5 (kC C 0 xq)
 d18:cF P w K mg base "ranked" [fb,c_] 5 (kC C 1 kF)
def UA(C:CA):Sp:=λ vs H Q _=>∃(p:Nat)(na ra:Addr)(ns row:List Int),vs=[nI p,.ref na,.ref ra]/\13<=p/\p<=18/\H na=some (.aD (ns.map V.int))/\H ra=some (.aD (row.map V.int))/\ns.length=nb p/\row.length<=100/\cj C H/\
 ∀q H',H q=none ->o5 C H H' ->cj C H' ->H' q=some (.aD ((xA p ns row).map V.int)) ->Q (.ref q) H'
theorem WD(F:bi K "answer_on_row" i5 f fd)(U:cQ K mg)(TD:R6 K mg)(D:R9 P w K mg base C):bj P w K mg base CX0 8 f fd ["place",fb,c_] (UA C):=by
 refine F.ok ["place",fb,c_] λ b_ A0 aA s H vs Q E hr h nd=>?_
 obtain⟨p,na,ra,ns,row,rfl,p1,p2,iR,iP,qE,ic,Tb,k⟩:=h;obtain⟨t,VZ,f14,f15,f16,f17,f18,ht,m13,m14,m15,m16,m17,m18,hS⟩:=TD.row;refine⟨_,af (aw (Cg (k:=7) hr (bK qg (b9 (v:=.ref t) rfl ht rfl) (bG gU (pv 0) (cN (cQ.i U (n:=13) zq_dk) rfl)) (λ _ _=>rfl)) (bA (pv 1) (pv 2)))),?_⟩
 try dsimp only [bx,Cx.dJ]
 have ei:((p:Int) -13)=((p -13:Nat):Int):=by omega
 have go:∀(fa:Addr)(n:Nat)(g:List Int ->List Int ->List Int)(x:Str),[V.ref VZ,V.ref f14,V.ref f15,V.ref f16,V.ref f17,V.ref f18][p -13]?=some (.ref fa) ->nb p=n ->xA p=g ->(∃j,j<=7/\cF P w K mg base x [fb,c_] j (kC C n g)) ->mg x=some (.ref fa) ->
   Qj K (V.ref t) (V.int ((p:Int) -13)) H (λ v H1=>∃sp:Sp,FnV (bx CX0 P w K mg base ["place",fb,c_] "answer_on_row" (aJ i5) f b_ A0 aA s H E).dJ 7 v sp/\cB (bQ 1) (cB (bQ 2) ik) [some (nI p),some (.ref na),some (.ref ra)] H1 λ vs H2=>sp vs H2 Q E0):=λ fa n g x jY hn hg D hm=>by
  obtain⟨j,hj,D⟩:=D;refine⟨t,_,_,_,rfl,rfl,hS H,(by rw[ei];exact cG jY),kC C n g,cF.fnv D hm hj,_,rfl,_,rfl,na,ra,ns,row,rfl,iR,iP,by rw[qE,hn],ic,Tb,λ q H' hq f T h=>?_⟩;rw[hg]at k;exact k q H' hq f T h
 refine⟨_,rfl,_,_,rfl,rfl,?_⟩;have hc:p=13\/p=14\/p=15\/p=16\/p=17\/p=18:=by omega
 rcases hc with rfl|rfl|rfl|rfl|rfl|rfl
 .exact go VZ 0 uD "once" rfl rfl rfl ⟨7,zq_dc,D.d13⟩ m13
 .exact go f14 0 oF "tight" rfl rfl rfl ⟨5,zq_dc,D.d14⟩ m14
 .exact go f15 1 kE "demand" rfl rfl rfl ⟨5,zq_dc,D.d15⟩ m15
 .exact go f16 0 qw "again" rfl rfl rfl ⟨5,zq_dc,D.d16⟩ m16
 .exact go f17 0 xq "response" rfl rfl rfl ⟨5,zq_dc,D.d17⟩ m17
 .exact go f18 1 kF "ranked" rfl rfl rfl ⟨5,zq_dc,D.d18⟩ m18
def fY(C:CA)(B:CB)(H:Hp)(ln:Addr)(m:ax)(S:Addr ->Prop):Prop:=
 ∃dl,(m=kD/\H ln=some (.bD B.cL dl (iy .bu))/\cj C H/\∀b,S b↔b=ln)\/
  (m.begun=true/\m.now<=3000/\∃A,H ln=some (.bD B.cL dl (iy (.ref A.ma)))/\jr C H A m/\¬jS C A ln/\∀b,S b↔(b=ln\/jS C A b))
theorem fY.cE{C:CA}{B:CB}{H:Hp}{ln:Addr}{m:ax}{S:Addr ->Prop}(h:fY C B H ln m S):cj C H:=by
 obtain⟨dl,⟨_,_,t,_⟩|⟨_,_,A,_,M,_⟩⟩:=h
 .exact t
 .exact M.tb
theorem fY.XC{C:CA}{B:CB}{H H':Hp}{ln:Addr}{m:ax}{S:Addr ->Prop}(h:fY C B H ln m S)(f:o5 C H H')(T:cj C H'):fY C B H' ln m S:=by
 obtain⟨dl,⟨e,hl,t,hs⟩|⟨hb,hn,A,hl,M,nf,hs⟩⟩:=h
 .exact⟨dl,.inl ⟨e,f.keep _ _ hl (wI.ne t hl λ ps z=>by cases z),T,hs⟩⟩
 .exact⟨dl,.inr ⟨hb,hn,A,f.keep _ _ hl (wI.ne M.tb hl λ ps z=>by cases z),(M.XC f T).1,nf,hs⟩⟩
theorem fY.same{C:CA}{B:CB}{H H':Hp}{ln:Addr}{m:ax}{S:Addr ->Prop}(h:fY C B H ln m S)(s:ae H H'):fY C B H' ln m S:=h.XC (o5.same s) (h.cE.same s)
theorem fY.new{C:CA}{B:CB}{H:Hp}{ln q:Addr}{m:ax}{S:Addr ->Prop}(h:fY C B H ln m S)(hq:H q=none):¬S q:=by
 obtain⟨dl,⟨e,hl,t,hs⟩|⟨hb,hn,A,hl,M,nf,hs⟩⟩:=h
 .intro z;rw[(hs q).mp z,hl]at hq;cases hq
 .intro z;rcases(hs q).mp z with z|z
  .rw[z,hl]at hq;cases hq
  .exact bL M hq z
structure Oy(P:dz)(w:c9)(K:aE)(mg:Str ->Option aq)(base:Heap)(C:CA):Prop where
 d1:cF P w K mg base "tell_job" [b8,fb,c_] 3 (dg C 5 AS)
 d2:cF P w K mg base "ticks" [b8,fb,c_] 10 (dg C 1 ot)
 d3:cF P w K mg base "until_over" [b8,fb,c_] 11 (dg C 1 oy)
 d4:cF P w K mg base "kill" [b8,fb,c_] 3 (dg C 1 uy)
 d5:cF P w K mg base "change" [b8,fb,c_] 3 (dg C 3 ku)
 d6:cF P w K mg base "state" [b8,fb,c_] 3 (dg C 1 ox)
 d7:cF P w K mg base "order" [b8,fb,c_] 8 (dg C 0 Av)
 d8:cF P w K mg base "sleepers" [b8,fb,c_] 8 (dg C 0 Aw)
 d9:cF P w K mg base "trace" [b8,fb,c_] 3 (dg C 2 ow)
 d10:cF P w K mg base "totals" [b8,fb,c_] 3 (dg C 0 vD)
 d11:cF P w K mg base "compare" [b8,fb,c_] 12 (dg C 1 iU)
 d12:cF P w K mg base "bound" [b8,fb,c_] 3 (dg C 1 oI)
def UB(C:CA)(B:CB):Sp:=λ vs H Q _=>∃(ln na ra:Addr)(p:Nat)(ns row:List Int)(m:ax)(S:Addr ->Prop),vs=[.ref ln,nI p,.ref na,.ref ra]/\p<=18/\fY C B H ln m S/\H na=some (.aD (ns.map V.int))/\H ra=some (.aD (row.map V.int))/\¬S na/\¬S ra/\ns.length=nb p/\row.length<=100/\
 ∀q H' S',H q=none ->fY C B H' ln (uI m p ns row).1 S' ->(∀b o,H b=some o ->¬S b ->b∉C.cE.map (·.1) ->H' b=some o) ->(∀b,H' b=none ->H b=none) ->(∀b,S' b ->S b\/H b=none) ->¬S' q ->H' q=some (.aD ((uI m p ns row).2.map V.int)) ->Q (.ref q) H'
theorem WE(F:bi K "answer" wz f fd)(T:Txt K mg C)(TB:iw K B)(U:cQ K mg)(TD:R6 K mg)(D0:cF P w K mg base "begin" [SI,fb] 3 (HU C B))(DR:cF P w K mg base "answer_on_row" ["place",fb,c_] 8 (UA C))(D:Oy P w K mg base C):
  bj P w K mg base CX0 13 f fd [SI,"place",fb,c_] (UB C B):=by
 refine F.ok [SI,"place",fb,c_] λ b_ A0 aA s H vs Q E hr h nd=>?_
 obtain⟨ln,na,ra,p,ns,row,m,S,rfl,hp,L,iR,iP,sna,sra,qE,ic,k⟩:=h;obtain⟨t,f1,f2,f3,f4,f5,f6,f7,f8,f9,f10,f11,f12,ht,m1,m2,m3,m4,m5,m6,m7,m8,m9,m10,m11,m12,hS⟩:=TD.dA;refine⟨_,ab (br (aI dM (pv 1) (cN (cQ.i U (n:=0) zq_dk) rfl) (aR _)) (af (aw (al D0 (hr.bI zq_dc) rfl (bA (pv 0) (pv 2))))) aK)
  (ab (br (aI Bv (pv 1) (cN (cQ.i U (n:=13) zq_dk) rfl) (aR _)) (af (aw (al DR (hr.bI zq_dc) rfl (jG (pv 1) (pv 2) (pv 3))))) aK)
  (ab (br (aI vP (ai (pv 0) rfl) fC (aR _)) (af (aw (a_ (aO (cN (cQ.i U (n:=-1) zq_dk) rfl))))) aK)
  (af (aw (Cg (k:=12) hr (bK qg (b9 (v:=.ref t) rfl ht rfl) (pv 1) (λ _ _=>rfl)) (jG (ai (pv 0) rfl) (pv 2) (pv 3))))))),?_⟩
 try dsimp only [bx,Cx.dJ]
 refine⟨_,rfl,rfl,_,rfl,?_⟩;rw[gf];have Dn:∀{H':Hp},o5 C H H' ->∀b o,H b=some o ->¬S b ->b∉C.cE.map (·.1) ->H' b=some o:=λ f b o e _ n=>f.keep b o e n
 unfold uI at k;by_cases c0:p=0
 .subst c0;refine gk rfl ?_;rw[au rfl]at k;obtain⟨dl,v,hl⟩:∃dl v,H ln=some (.bD B.cL dl (iy v)):=by
   obtain⟨dl,⟨_,hl,_⟩|⟨_,_,A,hl,_⟩⟩:=L
   .exact⟨dl,_,hl⟩
   .exact⟨dl,_,hl⟩
  have sln:S ln:=by
   obtain⟨dl,⟨_,_,_,hs⟩|⟨_,_,A,_,_,_,hs⟩⟩:=L
   .exact(hs ln).mpr rfl
   .exact(hs ln).mpr (.inl rfl)
  refine⟨_,rfl,_,rfl,ln,na,dl,v,ns,rfl,hl,iR,qE,L.cE,λ hb q H' hq sq h=>?_,λ hb q H' A hq kp nn XW M fr nq h=>?_⟩
  .rw[hb,ao zq_dc]at k;exact k q H' S hq (L.same sq) (Dn (o5.same sq)) (λ b e=>ae.bN sq e) (λ b z=>.inl z) (L.new hq) h
  .rw[hb,au rfl]at k;have nfl:¬jS C A ln:=λ z=>by have:=fr ln z;rw[hl]at this;cases this
   refine k q H' (λ b=>b=ln\/jS C A b) hq ⟨dl,.inr ⟨rfl,ia _,A,XW,M,nfl,λ b=>UC⟩⟩ (λ b o e ns _=>kp b o e λ z=>ns (z▸sln)) nn (λ b z=>?_) (λ z=>?_) h
   .rcases z with z|z
    .exact .inl (z▸sln)
    .exact .inr (fr b z)
   .rcases z with z|z
    .rw[z,hl]at hq;cases hq
    .exact nq z
 refine gg (gh (show¬((p:Nat):Int)=0 by omega)) ?_;rw[ao c0]at k;refine⟨_,rfl,_,_,rfl,rfl,_,rfl,?_⟩;by_cases c1:13<=p
 .refine gk (bO (show(13:Int)<=(p:Int) by omega)) ?_;rw[au c1]at k;exact⟨_,rfl,_,rfl,_,rfl,p,na,ra,ns,row,rfl,c1,hp,iR,iP,qE,ic,L.cE,λ q H' hq f T' h=>k q H' S hq (L.XC f T') (Dn f) f.bu (λ b z=>.inl z) (L.new hq) h⟩
 refine gg (gh (show¬(13:Int)<=(p:Int) by omega)) ?_;rw[ao c1]at k;have L':=L;obtain⟨dl,⟨em,hl,Tb,hs⟩|⟨hb,hn,A,hl,M,nf,hs⟩⟩:=L'
 .have adi:m.begun=false:=by rw[em];rfl
  rw[adi,ao zq_dc]at k;refine⟨_,rfl,rF hl TB.clL (TB.nL _ zq_dk) rfl ⟨rfl,_,rfl,gk rfl ⟨bE,λ q hq=>?_⟩⟩⟩;have sq:=ae.new (o:=.aD [V.int (-1)]) hq;exact k q _ S hq (L.same sq) (Dn (o5.same sq)) (λ b e=>ae.bN sq e) (λ b z=>.inl z) (L.new hq) (by rw[aa];rfl)
 .rw[hb,au rfl]at k;have keeps:=JR M.wf hb hn p ns row;refine⟨_,rfl,rF hl TB.clL (TB.nL _ zq_dk) rfl ⟨rfl,_,rfl,gg rfl ?_⟩⟩;have Jj:¬jS C A na:=λ z=>sna ((hs na).mpr (.inr z))
  have Jk:¬jS C A ra:=λ z=>sra ((hs ra).mpr (.inr z))
  have dC:ln∉C.cE.map (·.1):=wI.ne M.tb hl λ ps z=>by cases z
  have go:∀(fa:Addr)(n:Nat)(g:ax ->List Int ->List Int ->ax×List Int)(x:Str),[V.bu,V.ref f1,V.ref f2,V.ref f3,V.ref f4,V.ref f5,V.ref f6,V.ref f7,V.ref f8,V.ref f9,V.ref f10,V.ref f11,V.ref f12][p]?=some (.ref fa) ->nb p=n ->WC p=g ->(∃j,j<=12/\cF P w K mg base x [b8,fb,c_] j (dg C n g)) ->mg x=some (.ref fa) ->
    Qj K (V.ref t) (V.int (p:Int)) H (λ v H1=>∃sp:Sp,FnV (bx CX0 P w K mg base [SI,"place",fb,c_] "answer" (aJ wz) f b_ A0 aA s H E).dJ 12 v sp/\cB (gN K (bQ 0) "machine") (cB (bQ 2) (cB (bQ 3) ik)) [some (.ref ln),some (nI p),some (.ref na),some (.ref ra)] H1 λ vs H2=>sp vs H2 Q E0):=λ fa n g x jY Xd hg D hm=>by
   obtain⟨j,hj,D⟩:=D;refine⟨t,_,_,_,rfl,rfl,hS H,cG jY,dg C n g,cF.fnv D hm hj,_,rfl,rF hl TB.clL (TB.nL _ zq_dk) rfl ⟨_,rfl,_,rfl,A,m,na,ra,ns,row,rfl,M,iR,iP,Jj,Jk,by rw[qE,Xd],hn,ic,λ q H' A' ema M' fr hq nq h=>?_⟩⟩;rw[hg]at k keeps;have XW:H' ln=some (.bD B.cL dl (iy (.ref A'.ma))):=by rw[ema];exact fr.keep ln _ hl nf dC
   refine k q H' (λ b=>b=ln\/jS C A' b) hq ⟨dl,.inr ⟨keeps.1,keeps.2,A',XW,M',fr.aaJ hl nf,λ b=>UC⟩⟩ (λ b o e DN nt=>fr.keep b o e (λ z=>DN ((hs b).mpr (.inr z))) nt) fr.bu (λ b z=>?_) (λ z=>?_) h
   .rcases z with z|z
    .exact .inl ((hs b).mpr (.inl z))
    .rcases fr.foot b z with z|z
     .exact .inl ((hs b).mpr (.inr z))
     .exact .inr z
   .rcases z with z|z
    .rw[z,hl]at hq;cases hq
    .exact nq z
  refine⟨_,rfl,?_⟩;have hc:p=1\/p=2\/p=3\/p=4\/p=5\/p=6\/p=7\/p=8\/p=9\/p=10\/p=11\/p=12:=by omega
  rcases hc with rfl|rfl|rfl|rfl|rfl|rfl|rfl|rfl|rfl|rfl|rfl|rfl
  .exact go f1 5 AS "tell_job" rfl rfl rfl ⟨3,zq_dc,D.d1⟩ m1
  .exact go f2 1 ot "ticks" rfl rfl rfl ⟨10,zq_dc,D.d2⟩ m2
  .exact go f3 1 oy "until_over" rfl rfl rfl ⟨11,zq_dc,D.d3⟩ m3
  .exact go f4 1 uy "kill" rfl rfl rfl ⟨3,zq_dc,D.d4⟩ m4
  .exact go f5 3 ku "change" rfl rfl rfl ⟨3,zq_dc,D.d5⟩ m5
  .exact go f6 1 ox "state" rfl rfl rfl ⟨3,zq_dc,D.d6⟩ m6
  .exact go f7 0 Av "order" rfl rfl rfl ⟨8,zq_dc,D.d7⟩ m7
  .exact go f8 0 Aw "sleepers" rfl rfl rfl ⟨8,zq_dc,D.d8⟩ m8
  .exact go f9 2 ow "trace" rfl rfl rfl ⟨3,zq_dc,D.d9⟩ m9
  .exact go f10 0 vD "totals" rfl rfl rfl ⟨3,zq_dc,D.d10⟩ m10
  .exact go f11 1 iU "compare" rfl rfl rfl ⟨12,zq_dc,D.d11⟩ m11
  .exact go f12 1 oI "bound" rfl rfl rfl ⟨3,zq_dc,D.d12⟩ m12
theorem Oz(p:Nat)(hp:p<=18):lD (p:Int)=some (nb p,if oM p=true then 1 else 0):=by
 rcases p with _|_|_|_|_|_|_|_|_|_|_|_|_|_|_|_|_|_|_|p
 all_goals first|rfl|omega
theorem FC{z:Int}{x:Nat×Nat}(h:lD z=some x):∃p:Nat,p<=18/\z=(p:Int):=by
 refine p6 λ q=>?_
 have n:∀k:Nat,k<=18 ->z≠(k:Int):=λ k hk e=>q ⟨k,hk,e⟩
 unfold lD at h;rw[ao (show¬z=0 from n 0 zq_dc),ao (show¬z=1 from n 1 zq_dc),ao (show¬z=2 from n 2 zq_dc),ao (show¬z=3 from n 3 zq_dc),ao (show¬z=4 from n 4 zq_dc),ao (show¬z=5 from n 5 zq_dc),ao (show¬z=6 from n 6 zq_dc),ao (show¬z=7 from n 7 zq_dc),ao (show¬z=8 from n 8 zq_dc),ao (show¬z=9 from n 9 zq_dc),ao (show¬z=10 from n 10 zq_dc),ao (show¬z=11 from n 11 zq_dc),ao (show¬z=12 from n 12 zq_dc),ao (show¬z=13 from n 13 zq_dc),ao (show¬z=14 from n 14 zq_dc),ao (show¬z=15 from n 15 zq_dc),ao (show¬z=16 from n 16 zq_dc),ao (show¬z=17 from n 17 zq_dc),ao (show¬z=18 from n 18 zq_dc)]at h;cases h
theorem OA{l x s:List Int}(h:UD l=some (x,s)):l=(x.length:Int)::(x++s):=by
 cases l with
 |nil=>cases h
 |cons n r=>
  have h':(if 0<=n/\n.toNat<=r.length then some (r.take n.toNat,r.drop n.toNat)else none)=some (x,s):=h;by_cases c:0<=n/\n.toNat<=r.length
  .rw[au c]at h'
   injection h' with h'
   injection h' with e1 e2
   subst e1;subst e2;rw[k7,CZ c.2,UE];congr 1;omega
  .rw[ao c]at h';cases h'
theorem FF{f:Nat}{l:List Int}{cs:List (List (List Int))}(h:zz lD f l=some cs)(hl:l≠[]):
  ∃(f' p:Nat)(ns row cC:List Int)(Bm:List (List (List Int))),p<=18/\ns.length=nb p/\cs=sg p ns row::Bm/\zz lD f' cC=some Bm/\
   ((oM p=true/\l=(p:Int)::(ns++(row.length:Int)::(row++cC)))\/(oM p=false/\row=[]/\l=(p:Int)::(ns++cC))):=by
 cases l with
 |nil=>exact absurd rfl hl
 |cons z r=>
  cases f with
  |zero=>cases h
  |succ f=>
   have h1:(match abu lD (z::r)with|none=>none|some (c,t)=>match zz lD f t with|none=>none|some cs=>some (c::cs))=some cs:=h;cases hc:abu lD (z::r)with
   |none=>rw[hc]at h1;cases h1
   |some ct=>
    obtain⟨c,t⟩:=ct;rw[hc]at h1;dsimp only at h1;cases XE:zz lD f t with
    |none=>rw[XE]at h1;cases h1
    |some Bm=>
     rw[XE]at h1;have ecs:c::Bm=cs:=cT h1;have h2:(match lD z with|none=>none|some (n,k)=>if r.length<n then none else match PyFlat.rows k (r.drop n)with|none=>none|some (xs,t)=>some ((z::r.take n)::xs,t))=some (c,t):=hc;cases hs:lD z with
     |none=>rw[hs]at h2;cases h2
     |some nk=>
      obtain⟨p,hp,rfl⟩:=FC hs;rw[Oz p hp]at h2;dsimp only at h2;by_cases bH:r.length<nb p
      .rw[au bH]at h2;cases h2
      .rw[ao bH]at h2;have qE:(r.take (nb p)).length=nb p:=by rw[k7];omega
       cases OB:oM p with
       |false=>
        rw[OB]at h2;have h3:some (((p:Int)::r.take (nb p))::([]:List (List Int)),r.drop (nb p))=some (c,t):=h2
        injection h3 with h3
        injection h3 with e1 e2
        refine⟨f,p,r.take (nb p),[],t,Bm,hp,qE,?_,XE,.inr ⟨OB,rfl,?_⟩⟩
        .unfold sg;rw[OB,ao zq_dc,e1];exact ecs.symm
        .rw[<-e2,UE]
       |true=>
        rw[OB]at h2;have h3:(match(match UD (r.drop (nb p))with|none=>none|some (x,s)=>some ([x],s))with|none=>none|some (xs,t)=>some (((p:Int)::r.take (nb p))::xs,t))=some (c,t):=h2;cases hro:UD (r.drop (nb p))with
        |none=>rw[hro]at h3;cases h3
        |some xs=>
         obtain⟨x,s⟩:=xs;rw[hro]at h3;dsimp only at h3
         injection h3 with h3
         injection h3 with e1 e2
         have e3:=OA hro;refine⟨f,p,r.take (nb p),x,t,Bm,hp,qE,?_,XE,.inl ⟨OB,?_⟩⟩
         .unfold sg;rw[OB,au rfl,e1];exact ecs.symm
         .rw[<-e2,<-e3,UE]
def bV(ca:Addr)(pos:Nat):List (Str×V):=[("told",.ref ca),("at",nI pos)]
def XF(P:dz)(w:c9)(K:aE)(mg:Str ->Option aq)(base:Heap)(c:Addr)(m:Str)(ps:List Str)(k:Nat)(sp:Sp):Prop:=
 ∃(f:Addr)(fd:bp),P0 K c m f/\j6 K fd ps []/\bj P w K mg base CX0 k f fd ps sp
theorem vE{K:aE}{H:Hp}{a r c d:Addr}{fs:List (Str×V)}{xs:List V}{o:HO}(h:aP K H a xs)(hr:H r=some (.bD c d fs)):aP K (aS H r o) a xs:=by
 rcases h with(h|⟨z,h⟩)|h
 .exact .inl (.inl (by rw[ag (λ q=>by rw[q,hr]at h;cases h)];exact h))
 .exact .inl (.inr ⟨z,by rw[ag (λ q=>by rw[q,hr]at h;cases h)];exact h⟩)
 .exact .inr h
def UF(B:CB):Sp:=λ vs H Q _=>∃(x ca dx:Addr),vs=[.ref x,.ref ca]/\H x=some (.bD B.cR dx [])/\Q .bu (aS H x (.bD B.cR dx (bV ca 0)))
theorem WF(F:v7 K "__init__" "Reader.__init__" pV f fd)(TB:iw K B):bj P w K mg base CX0 1 f fd ["self","told"] (UF B):=by
 refine F.ok ["self","told"] λ b_ A aA s H vs Q E hr h nd=>?_
 obtain⟨x,ca,dx,rfl,hx,k⟩:=h;refine⟨_,ab (aN (pv 0) (pv 1) rfl) (af (aN (pv 0) am rfl)),?_⟩
 try dsimp only [bx,Cx.dJ]
 refine⟨_,rfl,_,rfl,wF hx TB.DW (TB.nR _ zq_dk) bR ?_⟩;rw[eS zq_dk];refine⟨_,rfl,wF aa TB.DW (TB.nR _ zq_dk) bR ?_⟩;rw[eS (show("at":Str)∉(["told"]:List Str) by decide+kernel),bn];exact k
def UG(B:CB):Sp:=λ vs H Q _=>∃(x dx:Addr),vs=[.ref x]/\H x=some (.bD B.cL dx [])/\Q .bu (aS H x (.bD B.cL dx (iy .bu)))
theorem WG(F:v7 K "__init__" "Line.__init__" ul f fd)(TB:iw K B):bj P w K mg base CX0 1 f fd ["self"] (UG B):=by
 refine F.ok ["self"] λ b_ A aA s H vs Q E hr h nd=>?_
 obtain⟨x,dx,rfl,hx,k⟩:=h;refine⟨_,af (aN (pv 0) fC rfl),?_⟩
 try dsimp only [bx,Cx.dJ]
 refine⟨_,rfl,wF hx TB.clL (TB.nL _ zq_dk) bR ?_⟩;rw[eS zq_dk];exact k
def OC(K:aE)(B:CB):Sp:=λ vs H Q _=>∃(r ca dr:Addr)(pos:Nat)(l:List Int),vs=[.ref r]/\H r=some (.bD B.cR dr (bV ca pos))/\aP K H ca (l.map V.int)/\Q (.bl (decide (pos<l.length))) H
theorem R_(F:v7 K "has_more" "Reader.has_more" kj f fd)(T:Txt K mg C)(TB:iw K B):bj P w K mg base CX0 1 f fd ["self"] (OC K B):=by
 refine F.ok ["self"] λ b_ A aA s H vs Q E hr h nd=>?_
 obtain⟨r,ca,dr,pos,l,rfl,EG,hl,k⟩:=h;refine⟨_,af (aw (oU tV (ai (pv 0) rfl) (aY aW (by rfl) (T.bu _ zq_dk) eX (aO (ai (pv 0) rfl))) (aR _))),?_⟩
 try dsimp only [bx,Cx.dJ]
 refine⟨_,rfl,rF EG TB.DW (TB.nR _ zq_dk) rfl ⟨_,rfl,rF EG TB.DW (TB.nR _ zq_dk) rfl ⟨ca,_,rfl,.inl hl,_,_,rfl,rfl,?_⟩⟩⟩;have e:decide (((pos:Nat):Int)<(((l.map V.int).length:Nat):Int))=decide (pos<l.length):=by
  rw[ak];exact decide_eq_decide.mpr ah
 show Q (V.bl (decide (((pos:Nat):Int)<(((l.map V.int).length:Nat):Int)))) H;rw[e];exact k
def UH(K:aE)(B:CB):Sp:=λ vs H Q _=>∃(r ca dr:Addr)(pos:Nat)(l:List Int),vs=[.ref r]/\H r=some (.bD B.cR dr (bV ca pos))/\aP K H ca (l.map V.int)/\pos<l.length/\Q (.int (l.getD pos 0)) (aS H r (.bD B.cR dr (bV ca (pos+1))))
theorem Sa(F:v7 K "take_one" "Reader.take_one" kl f fd)(TB:iw K B):bj P w K mg base CX0 1 f fd ["self"] (UH K B):=by
 refine F.ok ["self"] λ b_ A aA s H vs Q E hr h nd=>?_
 obtain⟨r,ca,dr,pos,l,rfl,EG,hl,dC,k⟩:=h;refine⟨_,ab (dh (pv 0) am iZ) (af (aw (bK be (ai (pv 0) rfl) (bG gU (ai (pv 0) rfl) am) (λ _ _=>rfl)))),?_⟩
 try dsimp only [bx,Cx.dJ]
 refine⟨_,rfl,rF EG TB.DW (TB.nR _ zq_dk) rfl ⟨_,_,rfl,rfl,dr,_,EG,bR,?_⟩⟩;have ep:eE ("at":Str) (V.int (((pos:Nat):Int)+1)) (bV ca pos)=bV ca (pos+1):=rfl;rw[ep];have jY:ml (l.map V.int) (((pos+1:Nat):Int) -1)=some (.int (l.getD pos 0)):=by
  rw[show(((pos+1:Nat):Int) -1)=(pos:Int) by omega];exact cA dC
 exact⟨_,rfl,rF aa TB.DW (TB.nR _ zq_dk) rfl ⟨_,rfl,rF aa TB.DW (TB.nR _ zq_dk) rfl ⟨_,_,rfl,rfl,ca,_,_,_,rfl,rfl,vE hl EG,jY,k⟩⟩⟩
def OD(K:aE)(B:CB):Sp:=λ vs H Q _=>∃(r ca dr:Addr)(pos n:Nat)(l:List Int),vs=[.ref r,nI n]/\H r=some (.bD B.cR dr (bV ca pos))/\aP K H ca (l.map V.int)/\pos+n<=l.length/\∀q,H q=none ->Q (.ref q) (aS (aS H r (.bD B.cR dr (bV ca (pos+n)))) q (.aD (((l.drop pos).take n).map V.int)))
theorem Sb(F:v7 K "take_many" "Reader.take_many" jQ f fd)(TB:iw K B):bj P w K mg base CX0 1 f fd ["self","many"] (OD K B):=by
 refine F.ok ["self","many"] λ b_ A aA s H vs Q E hr h nd=>?_
 obtain⟨r,ca,dr,pos,n,l,rfl,EG,hl,yL,k⟩:=h;refine⟨_,ab (dh (pv 0) (pv 1) iZ) (af (aw (nE qN (ai (pv 0) rfl) (j8 (bG gU (ai (pv 0) rfl) (pv 1))) (j8 (ai (pv 0) rfl))))),?_⟩
 try dsimp only [bx,Cx.dJ]
 refine⟨_,rfl,rF EG TB.DW (TB.nR _ zq_dk) rfl ⟨_,rfl,_,_,rfl,rfl,dr,_,EG,bR,?_⟩⟩;have ep:eE ("at":Str) (V.int (((pos:Nat):Int)+((n:Nat):Int))) (bV ca pos)=bV ca (pos+n):=rfl;rw[ep];refine⟨_,rfl,rF aa TB.DW (TB.nR _ zq_dk) rfl ⟨_,rfl,rF aa TB.DW (TB.nR _ zq_dk) rfl ⟨_,rfl,_,_,rfl,rfl,_,rfl,_,rfl,rF aa TB.DW (TB.nR _ zq_dk) rfl ⟨_,rfl,ca,_,rfl,vE hl EG,λ q hq=>?_⟩⟩⟩⟩;have hc:qL (l.map V.int) (some (((pos+n:Nat):Int) -(n:Int))) (some ((pos+n:Nat):Int))=((l.drop pos).take n).map V.int:=by
  rw[show(((pos+n:Nat):Int) -(n:Int))=(pos:Int) by omega,show((pos+n:Nat):Int)=(pos:Int)+(n:Int) by omega,As (by rw[ak];omega),Hu,C1]
 rw[hc];refine k q ?_;have:q≠r:=λ z=>by rw[z,aa]at hq;cases hq
 rw[ag this]at hq;exact hq
theorem HW:∀l:List (Option Nat),(Dm l).length<=l.length
 |[]=>ci _
 |a::r=>by
  have ih:=HW r;show(match Dm r with|(b,n)::l=>if a=b then(b,n+1)::l else(a,1)::(b,n)::l|[]=>[(a,1)]).length<=r.length+1;split
  .rename_i b n l e
   rw[e]at ih;have ih':l.length+1<=r.length:=ih;split
   .show l.length+1<=_;omega
   .show l.length+1+1<=_;omega
  .show 1<=_;omega
theorem xD(l:List (Option Nat)):(Hs l).length<=2*l.length+1:=by
 have:∀s:List (Option Nat×Nat),(s.flatMap λ e=>[fJ e.1,(e.2:Int)]).length=2*s.length:=by
  intro s;induction s with
  |nil=>rfl
  |cons e s ih=>
   rw[UI,dc,ih];show 2+2*s.length=2*(s.length+1);omega
 show((Dm l).flatMap λ e=>[fJ e.1,(e.2:Int)]).length+1<=_;rw[this];have:=HW l;omega
theorem jw{b:Bool}{m:ax}{x:ax×List Int}(h:b=true ->x.2.length<=1000):(if b=true then x else(m,[-2])).2.length<=1000:=by
 cases b
 .show(1:Nat)<=1000;decide
 .exact h rfl
theorem Sc{m:ax}(W:jz m)(p:Nat)(ns row:List Int):(WC p m ns row).2.length<=1000:=by
 unfold WC;split
 .refine jw λ _=>?_
  show(if Uz<=m.jobs.length then(m,[-3])else if(ns.getD 0 0).toNat<m.now then(m,[-4])else _).2.length<=1000;split
  .show(1:Nat)<=1000;decide
  .split
   .show(1:Nat)<=1000;decide
   .show(1:Nat)<=1000;decide
 .refine jw λ hb=>?_
  have j7:bJ (ns.getD 0 0) 1 200=true:=hb;unfold bJ at j7;simp only[bq,bc]at j7;show(if wV<m.now+(ns.getD 0 0).toNat then(m,[-5])else(fj (ns.getD 0 0).toNat m,Hs ((fj (ns.getD 0 0).toNat m).who.drop m.who.length))).2.length<=1000;split
  .show(1:Nat)<=1000;decide
  .obtain⟨W2,nw⟩:=iQ (ns.getD 0 0).toNat W;refine fB (xD _) ?_;rw[mj,W2.who,nw,W.who];omega
 .refine jw λ _=>?_
  show(if wV<m.now+(ns.getD 0 0).toNat then(m,[-5])else _).2.length<=1000;split
  .show(1:Nat)<=1000;decide
  .show(2:Nat)<=1000;decide
 .refine jw λ _=>?_
  show(if gw (aX m (ns.getD 0 0).toNat)=true then(m,[-6])else _).2.length<=1000;split<;>(show(1:Nat)<=1000;decide)
 .refine jw λ _=>?_
  show(if gw (aX m (ns.getD 0 0).toNat)=true then(m,[-6])else _).2.length<=1000;split<;>(show(1:Nat)<=1000;decide)
 .exact jw λ _=>(by show(13:Nat)<=1000;decide)
 .have:=(C3 W).2;show(Vbtkad.ints ((wY m).length::wY m)).length<=1000;unfold Vbtkad.ints;rw[ak,iI];omega
 .have:=(uz W).2;have e:∀s:List Nat,(s.flatMap λ j=>[j,(aX m j).wake]).length=2*s.length:=by
   intro s;induction s with
   |nil=>rfl
   |cons j s ih=>
    rw[UI,dc,ih];show 2+2*s.length=2*(s.length+1);omega
  show(Vbtkad.ints ((C4 m).length::(C4 m).flatMap λ j=>[j,(aX m j).wake])).length<=1000;unfold Vbtkad.ints;rw[ak,iI,e];omega
 .refine jw λ hb=>?_
  have j7:(bJ (ns.getD 0 0) 0 (m.who.length:Int)&&bJ (ns.getD 1 0) 0 200)=true:=hb;unfold bJ at j7;simp only[bq,bc]at j7;refine fB (xD _) ?_;rw[k7];omega
 .show(7:Nat)<=1000;decide
 .refine jw λ _=>?_
  show(jv m (ns.getD 0 0).toNat 6).length<=1000;have:=oK m (ns.getD 0 0).toNat 6;omega
 .refine jw λ _=>?_
  show(match HM m (aX m (ns.getD 0 0).toNat)with|none=>[0]|some b=>Vbtkad.ints [1,b]).length<=1000;split
  .show(1:Nat)<=1000;decide
  .show(2:Nat)<=1000;decide
theorem o7{b:Bool}{x:List Int}(h:b=true ->x.length<=1000):(if b=true then x else [-2]).length<=1000:=by
 cases b
 .show(1:Nat)<=1000;decide
 .exact h rfl
theorem OE(l:List fv):∀n t (f:fX),(abb l n t f).length=f.length:=λ n=>by
 induction n with
 |zero=>intro t f;rfl
 |succ n ih=>intro t f;rw[iF,ih,lZ]
theorem FG(p:Nat)(ns row:List Int):(xA p ns row).length<=1000:=by
 unfold xA;split
 .refine o7 λ hb=>?_
  have:=(o4 hb).1;show(Vbtkad.ints (oE (jg row))).length+2<=1000;unfold Vbtkad.ints oE;rw[ak,ak,OE,ak];omega
 .refine o7 λ hb=>?_
  show(match HF (jg row)with|none=>[0]|some e=>Vbtkad.ints [1,e.1,e.2,zr (jg row) e.1 e.2]).length<=1000;split
  .show(1:Nat)<=1000;decide
  .show(4:Nat)<=1000;decide
 .exact o7 λ _=>(by show(1:Nat)<=1000;decide)
 .refine o7 λ hb=>?_
  show(match N2 (e8 row)with|none=>Vbtkad.ints [1,ig (e8 row)]|some t=>Vbtkad.ints [0,ig (e8 row),t,oG (e8 row) t]).length<=1000;split
  .show(2:Nat)<=1000;decide
  .show(4:Nat)<=1000;decide
 .refine o7 λ hb=>?_
  show(hX (e8 row) (e8 row).length).length<=1000;have:=l6 (e8 row) (e8 row).length;have:=(l5 hb).1;omega
 .refine o7 λ hb=>?_
  have j7:(Ur row&&bJ (ns.getD 0 0) 0 300)=true:=hb;rw[bq]at j7;have h6:=(zp j7.1).1;have e:∀(g:Nat ->Nat×Nat)(s:List Nat),(s.flatMap λ i=>[(g i).1,(g i).2]).length=2*s.length:=by
   intro g s;induction s with
   |nil=>rfl
   |cons j s ih=>
    rw[UI,dc,ih];show 2+2*s.length=2*(s.length+1);omega
  show(Vbtkad.ints ((bf (uG row).length).flatMap λ i=>[((xr (uG row) (ns.getD 0 0).toNat).filter λ e=>e.1==i).length,Oc (xr (uG row) (ns.getD 0 0).toNat) i])).length<=1000;unfold Vbtkad.ints;rw[ak,e (λ i=>(((xr (uG row) (ns.getD 0 0).toNat).filter λ e=>e.1==i).length,Oc (xr (uG row) (ns.getD 0 0).toNat) i)),ko];omega
theorem zA{C:CA}{B:CB}{H:Hp}{ln:Addr}{m:ax}{S:Addr ->Prop}(L:fY C B H ln m S)(p:Nat)(ns row:List Int):(uI m p ns row).2.length<=1000:=by
 unfold uI;split
 .split<;>(show(1:Nat)<=1000;decide)
 .split
  .exact FG p ns row
  .split
   .rename_i hb
    obtain⟨dl,⟨e,_⟩|⟨_,_,A,_,M,_⟩⟩:=L
    .rw[e]at hb;cases hb
    .exact Sc M.wf p ns row
   .show(1:Nat)<=1000;decide
theorem zB{l t:List Int}{pos:Nat}{a:Int}(h:l.drop pos=a::t):pos<l.length/\l.getD pos 0=a/\l.drop (pos+1)=t:=by
 have dC:pos<l.length:=by
  refine Nat.lt_of_not_le λ z=>?_
  rw[Ui z]at h;cases h
 refine⟨dC,?_,?_⟩
 .have h0:(l.drop pos)[0]?=some a:=by rw[h];rfl
  rw[GI,Hy]at h0;rw[aG,h0];rfl
 .have:(l.drop pos).drop 1=t:=by rw[h];rfl
  rw[GK]at this;exact this
theorem Dr{l x t:List Int}{pos:Nat}(hp:pos<=l.length)(h:l.drop pos=x++t):pos+x.length<=l.length/\(l.drop pos).take x.length=x/\l.drop (pos+x.length)=t:=by
 have hl:=congrArg nA h;rw[mj,dc]at hl;refine⟨ah,by rw[h,aa1 (ci _),km],?_⟩;rw[<-GK,h,aa2 (ci _),List.drop_length,t_]
theorem iz{l:List Int}(h:abv l=true):l.length<=40:=by
 unfold abv at h;rw[bq,bc]at h;exact h.2
theorem JT{p:Nat}{ns row:List Int}(hl:ns.length=nb p)(hr:oM p=true)(hp:p<=18)(h:UJ (lC (sg p ns row))=true):row.length<=40:=by
 have hc:p=1\/p=13\/p=14\/p=15\/p=16\/p=17\/p=18:=by
  unfold oM at hr;simp only[lc,bc,j5]at hr;omega
 rcases hc with rfl|rfl|rfl|rfl|rfl|rfl|rfl
 .rw[AQ hl]at h;exact iz ((bq _ _).mp h).2
 .rw[l0 hl]at h;exact iz h
 .rw[l0 hl]at h;exact iz h
 .rw[fh hl]at h;exact iz ((bq _ _).mp h).2
 .rw[l0 hl]at h;exact iz h
 .rw[l0 hl]at h;exact iz h
 .rw[fh hl]at h;exact iz ((bq _ _).mp h).2
theorem AT{X:Cx}{c:Addr}{m:Str}{ps:List Str}{k:Nat}{sp:Sp}{k5 pos:Pos}{o:Expr}{ta:TE}{pl:Sem Bool}(D:XF X.prog X.w X.K X.mg X.base c m ps k sp)(cl:sw X.K c)(hr:dR k X.A)(he:PE X o ta)
  (ht:eval (.Call (.Attribute o m k5) [] [] pos) X.aC=(do
   let ov<-eval o X.aC
   standAt k5.atName
   let(f,first)<-holding [ov] (getMethod ov m pl)
   callWith pos f first (backTo pos (starEach [] X.aC)) (backToKw pos (keywordEach [] X.aC))):=by rfl):PE X (.Call (.Attribute o m k5) [] [] pos) (Gf c m sp [] E0 ta ik):=by
 obtain⟨f,fd,hm,hb,F⟩:=D;exact KW (pl:=pl) he cl hm F hr hb .nil yN ht
theorem HX{X:Cx}{c:Addr}{m:Str}{ps:List Str}{k:Nat}{sp:Sp}{k5 pos:Pos}{o e:Expr}{es:List Expr}{ta:TE}{t:TA}{pl:Sem Bool}(D:XF X.prog X.w X.K X.mg X.base c m ps k sp)(cl:sw X.K c)(hr:dR k X.A)(he:PE X o ta)(ha:PA X (e::es) t)
  (vo:starEach (e::es) X.aC=(false,eval e X.aC)::starEach es X.aC:=by rfl) (pc:(backTo pos (starEach es X.aC)).any (·.1)=false:=by rfl)
  (ht:eval (.Call (.Attribute o m k5) (e::es) [] pos) X.aC=(do
   let ov<-eval o X.aC
   standAt k5.atName
   let(f,first)<-holding [ov] (getMethod ov m pl)
   callWith pos f first (backTo pos (starEach (e::es) X.aC)) (backToKw pos (keywordEach [] X.aC))):=by rfl):PE X (.Call (.Attribute o m k5) (e::es) [] pos) (Gf c m sp [] E0 ta t):=by
 obtain⟨f,fd,hm,hb,F⟩:=D;exact Qb (pl:=pl) he cl hm F hr hb .nil yN ha vo pc ht
theorem JU{X:Cx}{x:Str}{c:Addr}{ps:List Str}{k:Nat}{sp:Sp}{p pos:Pos}(D:tj X.prog X.w X.K X.mg X.base x c ps k sp)(hr:dR (k+1) X.A)(hg:Gl X x)(Ei:(x==("__debug__":Str))=false:=by decide):
  PE X (.Call (.Name x p) [] [] pos) (qI c sp [] E0 ik):=by
 obtain⟨f,fd,hm,M,hb,F⟩:=D;exact KY M F hr hg hm hb .nil yN Ei
theorem fY.RO{C:CA}{B:CB}{H:Hp}{ln a:Addr}{m:ax}{S:Addr ->Prop}{o:HO}(h:fY C B H ln m S)(na:¬S a)(T:cj C (aS H a o)):fY C B (aS H a o) ln m S:=by
 obtain⟨dl,⟨e,hl,t,hs⟩|⟨hb,hn,A,hl,M,nf,hs⟩⟩:=h
 .refine⟨dl,.inl ⟨e,?_,T,hs⟩⟩;rw[ag (λ z=>na ((hs a).mpr z.symm))];exact hl
 .have nF:∀b,jS C A b ->b≠a:=λ b hb z=>na ((hs a).mpr (.inr (z▸hb)))
  refine⟨dl,.inr ⟨hb,hn,A,?_,?_,nf,hs⟩⟩
  .rw[ag (λ z=>na ((hs a).mpr (.inl z.symm)))];exact hl
  .obtain⟨d,hm⟩:=M.ok.dA;refine⟨⟨⟨d,?_⟩,?_,?_,M.ok.nd,λ q hq=>?_,M.ok.ne,M.ok.len⟩,M.wf,T,M.lj,M.lp⟩
   .rw[ag (nF _ (.inl rfl))];exact hm
   .show aS H a o A.la=_;rw[ag (nF A.la (.inr (.inl rfl)))];exact M.ok.aD
   .show aS H a o A.ra=_;rw[ag (nF A.ra (.inr (.inr (.inl rfl))))];exact M.ok.run
   .obtain⟨⟨dj,h1⟩,h2,h3⟩:=M.ok.at_ q hq;have hqa:q.a∈A.js:=by
     rw[<-jA (A:=A) (m:=m) M.lj];exact Nv hq
    have hqp:q.j.parts∈A.ps:=by
     obtain⟨i,hi,rfl⟩:=gG hq;have uV:i<m.jobs.length:=by rw[bM]at hi;exact hi
     have eq:(bw A m).js[i]=eF A i (aX m i):=by
      have:=fO (p:=bw A m) (i:=i) hi;rw[fg uV,ay hi]at this;exact cT this
     rw[eq];show A.ps.getD i 0∈A.ps;rw[aG,ay (by rw[M.lp];exact uV)];exact gH _
    exact⟨⟨dj,by rw[ag (nF _ (.inr (.inr (.inr (.inl hqa)))))];exact h1⟩,by rw[ag (nF _ (.inr (.inr (.inr (.inr hqp)))))];exact h2,h3⟩
structure WH(K:aE)(mg:Str ->Option aq):Prop where
 nbt:∃t,mg "NUMBERS_BEHIND"=some (.ref t)/\∀H:Hp,e9 K H t (nbs.map nI)
 pwr:∃t,mg "PLACES_WITH_ROW"=some (.ref t)/\∀H:Hp,e9 K H t (([1,13,14,15,16,17,18]:List Nat).map nI)
theorem WI(p:Nat)(hp:p<=18):YC (nI p) (([1,13,14,15,16,17,18]:List Nat).map nI)=oM p:=by
 rcases p with _|_|_|_|_|_|_|_|_|_|_|_|_|_|_|_|_|_|_|p
 all_goals first|rfl|omega
theorem abw(p:Nat)(hp:p<=18):ml (nbs.map nI) (p:Int)=some (nI (nb p)):=by
 refine cG ?_;rw[aT];unfold nb;rw[aG,ay (show p<nbs.length by show p<19;omega)];rfl
def spAll(K:aE)(C:CA):Sp:=λ vs H Q _=>∃(ca:Addr)(l:List Int),vs=[.ref ca]/\aP K H ca (l.map V.int)/\abx l=true/\cj C H/\∀p H',H' p=some (.aD ((HY l).map V.int)) ->Q (.ref p) H'
def tD(K:aE)(H:Hp)(S:Addr ->Prop)(ca:Addr)(xs:List V):Prop:=(Rd H ca (.aD xs)/\¬S ca)\/∀H':Hp,aP K H' ca xs
theorem tD.sq{K:aE}{H:Hp}{S:Addr ->Prop}{ca:Addr}{xs:List V}(h:tD K H S ca xs):aP K H ca xs:=by
 rcases h with⟨h,_⟩|h
 .exact .inl h
 .exact h H
theorem tD.to{K:aE}{H H':Hp}{S S':Addr ->Prop}{ca:Addr}{xs:List V}(h:tD K H S ca xs)(k:∀o,H ca=some o ->¬S ca ->(∀ps,o≠.tP ps) ->(∀c d fs,o≠.bD c d fs) ->H' ca=some o/\¬S' ca):tD K H' S' ca xs:=by
 rcases h with⟨h|⟨z,h⟩,n⟩|h
 .obtain⟨a,b⟩:=k _ h n (λ ps z=>by cases z) (λ c d fs z=>by cases z);exact .inl ⟨.inl a,b⟩
 .obtain⟨a,b⟩:=k _ h n (λ ps z=>by cases z) (λ c d fs z=>by cases z);exact .inl ⟨.inr ⟨z,a⟩,b⟩
 .exact .inr h
structure aby(K:aE)(C:CA)(B:CB)(l:List Int)(ca rd ln ga:Addr)(n:Nat)(σ:L2.St)(H:Hp):Prop where
 ex:∃(f pos:Nat)(cC:List (List (List Int)))(m:ax)(S:Addr ->Prop)(gv:List Int)(dr:Addr)(x4 x5 x6 x7:Option V),cC.length=n/\zz lD f (l.drop pos)=some cC/\pos<=l.length/\(∀c∈cC,UJ (lC c)=true)/\gv.length+1001*n<=400000/\
  HY l=gv++Ds (Dt p_ m (cC.map lC))/\fY C B H ln m S/\H rd=some (.bD B.cR dr (bV ca pos))/\¬S rd/\tD K H (λ b=>S b\/b=ga) ca (l.map V.int)/\H ga=some (.aD (gv.map V.int))/\¬S ga/\
  σ=[some (.ref ca),some (.ref rd),some (.ref ln),some (.ref ga),x4,x5,x6,x7]
theorem WJ(F:bi K "answers" oW f fd)(T:Txt K mg C)(TB:iw K B)(TE:WH K mg)(D1:tj P w K mg base "Reader" B.cR ["self","told"] 1 (UF B))(D2:tj P w K mg base "Line" B.cL ["self"] 1 (UG B))(D3:XF P w K mg base B.cR "has_more" ["self"] 1 (OC K B))(D4:XF P w K mg base B.cR "take_one" ["self"] 1 (UH K B))(D5:XF P w K mg base B.cR "take_many" ["self","many"] 1 (OD K B))(D6:cF P w K mg base "answer" [SI,"place",fb,c_] 13 (UB C B)):
  bj P w K mg base CX0 14 f fd ["calls"] (spAll K C):=by
 refine F.ok ["calls","reader",SI,"given","place",fb,c_,"told"] λ b_ A0 aA s H vs Q E hr h nd=>?_
 obtain⟨ca,l,rfl,hl,hask,Tb,k⟩:=h;obtain⟨tn,htn,hN⟩:=TE.nbt;obtain⟨tp,pw,hPW⟩:=TE.pwr;have r2:dR 2 _:=hr.bI (by decide:2<=13);have r1:dR 1 _:=hr.bI (by decide:1<=13);refine⟨_,ab (bg (i:=1) nd rfl (aH rfl) (g_ D1 r2 rfl (aO (pv 0))))
  (ab (bg (i:=2) nd rfl (aH rfl) (JU D2 r2 rfl))
  (ab (bg (i:=3) nd rfl (aH rfl) (a_ il))
  (ab (nu eY (cx (AT D3 TB.DW r1 (pv 1)))
   (ab (bg (i:=4) nd rfl (aH rfl) (AT D4 TB.DW r1 (pv 1)))
   (ab (bg (i:=5) nd rfl (aH rfl) (HX D5 TB.DW r1 (pv 1) (aO (bK qg (b9 (v:=.ref tn) rfl htn rfl) (pv 4) (λ _ _=>rfl)))))
   (ab (bg (i:=6) nd rfl (aH rfl) (a_ il))
   (ab (br (aI Iz (pv 4) (b9 (v:=.ref tp) rfl pw rfl) rfl) (af (bg (i:=6) nd rfl (aH rfl) (HX D5 TB.DW r1 (pv 1) (aO (AT D4 TB.DW r1 (pv 1)))))) aK)
   (ab (bg (i:=7) nd rfl (aH rfl) (al D6 hr rfl (dE (pv 2) (jG (pv 4) (pv 5) (pv 6)))))
   (ab (bz (iK jc yF CC jx (pv 3) (aO (aY aW (by rfl) (T.bu _ zq_dk) eX (aO (pv 7))))))
   (af (bz (iK jc pJ rL e_ (pv 3) (aO (pv 7))))))))))))
  (af (aw (pv 3)))))),?_⟩
 try dsimp only [bx,Cx.dJ]
 obtain⟨cs,XE,abz,abN,adj⟩:∃cs,zz lD l.length l=some cs/\(∀c∈cs,UJ (lC c)=true)/\cs.length<=300/\HY l=Ds (Dt p_ adU (cs.map lC)):=by
  unfold abx abA at hask;unfold HY abA;cases hc:zz lD l.length l with
  |none=>rw[hc]at hask;cases hask
  |some cs=>
   rw[hc]at hask;dsimp only at hask;rw[bq]at hask;have h1:=hask.1;unfold PyFlat.atMost at h1;rw[bc,ak]at h1;have h2:=hask.2;unfold adV at h2;rw[bq]at h2;have h3:=fG.mp h2.2;exact⟨cs,rfl,λ c Md=>h3 _ (Nv Md),h1,rfl⟩
 refine⟨_,rfl,λ rd d1 EG hd1 aeb=>⟨rd,ca,d1,rfl,aa,rfl,?_⟩⟩;generalize HJ:aS (aS (aS H d1 (.own rd)) rd (.bD B.cR d1 [])) rd (.bD B.cR d1 (bV ca 0))=H1;have s1:ae H H1:=by rw[<-HJ];exact jB EG hd1
 have WK:H1 rd=some (.bD B.cR d1 (bV ca 0)):=by rw[<-HJ];exact aa
 refine λ ln d2 WA hd2 aec=>⟨ln,d2,rfl,aa,rfl,?_⟩
 generalize wX:aS (aS (aS H1 d2 (.own ln)) ln (.bD B.cL d2 [])) ln (.bD B.cL d2 (iy .bu))=H2;have s2:ae H1 H2:=by rw[<-wX];exact jB WA hd2
 have Ot:H2 ln=some (.bD B.cL d2 (iy .bu)):=by rw[<-wX];exact aa
 refine⟨zq_dc,λ ga hga=>?_⟩;have s3:=ae.new (o:=.aD []) hga;have s23:=s2.trans s3;have nrl:rd≠ln:=λ z=>by rw[z,WA]at WK;cases WK
 have ngl:ga≠ln:=λ z=>by rw[z,Ot]at hga;cases hga
 have pj:aP K H1 ca (l.map V.int):=ae.seq s1 hl;have ca0:tD K H2 (λ b=>b=ln) ca (l.map V.int):=by
  rcases pj with(h|⟨o,h⟩)|h
  .exact .inl ⟨.inl (s2 _ _ h),λ z=>by rw[z,WA]at h;cases h⟩
  .exact .inl ⟨.inr ⟨o,s2 _ _ h⟩,λ z=>by rw[z,WA]at h;cases h⟩
  .exact .inr λ H'=>.inr h
 refine⟨λ n σ H'=>aby K C B l ca rd ln ga n σ H',⟨cs.length,⟨l.length,0,cs,kD,(λ b=>b=ln),[],d1,_,_,_,_,rfl,XE,ia _,abz,(by show 0+1001*cs.length<=400000;omega),(by rw[adj];rfl),⟨d2,.inl ⟨rfl,s3 _ _ Ot,Tb.same (s1.trans s23),λ b=>UC⟩⟩,s23 _ _ WK,nrl,ca0.to (λ o e n _ _=>⟨s3 _ _ e,λ z=>z.elim n (λ z=>by rw[z,hga]at e;cases e)⟩),aa,ngl,rfl⟩⟩,λ n σ H3 Lp=>?_⟩;obtain⟨fu,pos,cC,m,S,gv,dr,x4,x5,x6,x7,hn,hpc,RB,OF,hsz,Sd,L3,Se,WL,ca3,XG,sg3,rfl⟩:=Lp;have JC:=ca3.sq;refine⟨_,rfl,rd,dr,_,rfl,Se,rfl,rd,ca,dr,pos,l,rfl,Se,JC,_,rfl,?_⟩;by_cases OG:pos<l.length
 .refine gk (bO OG) ?_;refine⟨λ σ' H'=>∃n',n'<n/\aby K C B l ca rd ln ga n' σ' H',λ _ _ h=>h,?_⟩;have jD:l.drop pos≠[]:=λ z=>by
   have:=congrArg nA z;rw[mj]at this;have:l.length -pos=0:=this;omega
  obtain⟨f',p,ns,row,HZ,Bm,hp,qE,ecs,OH,OI⟩:=FF hpc jD;subst ecs;have Xd:Bm.length+1=n:=hn;obtain⟨t1,et1⟩:∃t1,l.drop pos=(p:Int)::t1:=by
   rcases OI with⟨_,e⟩|⟨_,_,e⟩
   .exact⟨_,e⟩
   .exact⟨_,e⟩
  obtain⟨_,eg,ed1⟩:=zB et1;refine⟨_,rfl,rd,dr,_,rfl,Se,rfl,rd,ca,dr,pos,l,rfl,Se,JC,OG,?_⟩;rw[eg];generalize DV:aS H3 rd (.bD B.cR dr (bV ca (pos+1)))=H4;have hr4:H4 rd=some (.bD B.cR dr (bV ca (pos+1))):=by rw[<-DV];exact aa
  have Wq:aP K H4 ca (l.map V.int):=by rw[<-DV];exact vE JC Se
  have aed:=Wq;obtain⟨u1,eu1⟩:∃u1,t1=ns++u1:=by
   rcases OI with⟨_,e⟩|⟨_,_,e⟩
   .rw[et1]at e;injection e with _ e;exact⟨_,e⟩
   .rw[et1]at e;injection e with _ e;exact⟨_,e⟩
  rw[eu1]at ed1;obtain⟨abB,etk,ed2⟩:=Dr (show pos+1<=l.length by omega) ed1;rw[qE]at abB etk ed2;refine⟨_,rfl,rd,dr,_,rfl,hr4,rfl,_,rfl,tn,_,_,_,rfl,rfl,hN _,abw p hp,rd,ca,dr,pos+1,nb p,l,rfl,hr4,Wq,abB,λ na JW=>?_⟩;rw[etk];generalize Uv:aS (aS H4 rd (.bD B.cR dr (bV ca (pos+1+nb p)))) na (.aD (ns.map V.int))=H5;have nna:na≠rd:=λ z=>by rw[z,hr4]at JW;cases JW
  have abC:H3 na=none:=by rw[<-DV,ag nna]at JW;exact JW
  have hr5:H5 rd=some (.bD B.cR dr (bV ca (pos+1+nb p))):=by rw[<-Uv,ag nna.symm,aa]
  have abD:H5 na=some (.aD (ns.map V.int)):=by rw[<-Uv,aa]
  have kp5:∀{b:Addr}{o:HO},H3 b=some o ->b≠rd ->H5 b=some o:=λ{b o} e n=>by
   rw[<-Uv,ag (λ z=>by rw[z,abC]at e;cases e),ag n,<-DV,ag n];exact e
  have sna:¬S na:=L3.new abC;have T3:=L3.cE;have T4:cj C H4:=by
   rw[<-DV];exact cj.BE T3 Se (λ ps z=>by cases z) (λ c q z=>by cases z) λ b o e n=>by rw[ag n];exact e
  have T5:cj C H5:=by
   rw[<-Uv];refine cj.same (cj.BE T4 hr4 (λ ps z=>by cases z) (λ c q z=>by cases z) λ b o e n=>by rw[ag n];exact e) (ae.new ?_);rw[ag nna];exact JW
  have L4:fY C B H4 ln m S:=by rw[<-DV];exact L3.RO WL (by rw[DV];exact T4)
  have L5:fY C B H5 ln m S:=by
   rw[<-Uv];have T4':cj C (aS H4 rd (.bD B.cR dr (bV ca (pos+1+nb p)))):=cj.BE T4 hr4 (λ ps z=>by cases z) (λ c q z=>by cases z) λ b o e n=>by rw[ag n];exact e
   exact(L4.RO WL T4').same (ae.new (by rw[ag nna];exact JW))
  have ca5:tD K H5 (λ b=>S b\/b=ga) ca (l.map V.int):=ca3.to λ o e n _ ni=>⟨kp5 e λ z=>by rw[z,Se]at e;exact ni _ _ _ (cT e).symm,n⟩
  have hg5:H5 ga=some (.aD (gv.map V.int)):=kp5 XG λ z=>by rw[z,Se]at XG;cases XG
  refine⟨zq_dc,λ r0 hr0=>?_⟩;have s6:=ae.new (o:=.aD []) hr0;obtain⟨H6,hH6⟩:=bS (aS H5 r0 (.aD []));rw[<-hH6]at s6⊢;have adk:H6 r0=some (.aD []):=by rw[hH6];exact aa
  have ein:=WI p hp;refine⟨_,rfl,tp,_,rfl,.inr (hPW _),rfl,rfl,_,rfl,?_⟩;have sr0:¬S r0:=L5.new hr0;rcases OI with⟨OB,e⟩|⟨OB,abE,e⟩
  .refine gk (show YC (nI p) (([1,13,14,15,16,17,18]:List Nat).map nI)=true by rw[ein];exact OB) ?_;have adl:row.length<=40:=JT qE OB hp (OF _ fM);have eu:u1=(row.length:Int)::(row++HZ):=by
    rw[et1,eu1]at e
    injection e with _ e
    exact abF e
   rw[eu]at ed2;obtain⟨VJ,eg2,ed3⟩:=zB ed2;obtain⟨adm,adn,ed4⟩:=Dr (show pos+1+nb p+1<=l.length by omega) ed3;have V0:=s6 _ _ hr5;have ca6:tD K H6 (λ b=>S b\/b=ga) ca (l.map V.int):=ca5.to λ o e n _ _=>⟨s6 _ _ e,n⟩
   refine⟨_,rfl,rd,dr,_,rfl,V0,rfl,_,rfl,rd,dr,_,rfl,V0,rfl,rd,ca,dr,pos+1+nb p,l,rfl,V0,ca6.sq,VJ,?_⟩;rw[eg2];have ado:aP K (aS H6 rd (.bD B.cR dr (bV ca (pos+1+nb p+1)))) ca (l.map V.int):=vE ca6.sq V0;refine⟨rd,ca,dr,pos+1+nb p+1,row.length,l,rfl,aa,ado,adm,λ ra Sf=>?_⟩;rw[adn,bn];have nrr:ra≠rd:=λ z=>by rw[z,aa]at Sf;cases Sf
   have OJ:H6 ra=none:=by rw[ag nrr]at Sf;exact Sf
   obtain⟨tE,xE⟩:=bS (pos+1+nb p+1+row.length);rw[<-xE];generalize hH7:aS (aS H6 rd (.bD B.cR dr (bV ca tE))) ra (.aD (row.map V.int))=H7;have OK:H7 rd=some (.bD B.cR dr (bV ca tE)):=by rw[<-hH7,ag nrr.symm,aa]
   have WM:H7 ra=some (.aD (row.map V.int)):=by rw[<-hH7,aa]
   have kp7:∀{b:Addr}{o:HO},H5 b=some o ->b≠rd ->H7 b=some o:=λ{b o} e n=>by
    have e6:=s6 _ _ e;rw[<-hH7,ag (λ z=>by rw[z,OJ]at e6;cases e6),ag n];exact e6
   have WN:H7 na=some (.aD (ns.map V.int)):=kp7 abD nna;have OL:H7 ga=some (.aD (gv.map V.int)):=kp7 hg5 λ z=>by rw[z,Se]at XG;cases XG
   have L6:=L5.same s6;have sra:¬S ra:=L6.new OJ;have T6':cj C (aS H6 rd (.bD B.cR dr (bV ca tE))):=cj.BE L6.cE V0 (λ ps z=>by cases z) (λ c q z=>by cases z) λ b o e n=>by rw[ag n];exact e
   have L7:fY C B H7 ln m S:=by rw[<-hH7];exact(L6.RO WL T6').same (ae.new (by rw[ag nrr];exact OJ))
   have ca7:tD K H7 (λ b=>S b\/b=ga) ca (l.map V.int):=ca5.to λ o e n _ ni=>⟨kp7 e λ z=>by rw[z,hr5]at e;exact ni _ _ _ (cT e).symm,n⟩
   have mW:row.length<=100:=by omega
   have OM:tE<=l.length:=by omega
   have ON:l.drop tE=HZ:=by rw[xE];exact ed4
   refine⟨_,rfl,_,rfl,_,rfl,_,rfl,ln,na,ra,p,ns,row,m,S,rfl,hp,L7,WN,WM,sna,sra,qE,mW,λ q H8 S8 hq L8 kp nn sf nq h8=>?_⟩;obtain⟨G,hG⟩:=bS (uI m p ns row);have hGl:G.2.length<=1000:=by rw[hG];exact zA L3 p ns row
   rw[<-hG]at L8 h8;have WO:H8 ga=some (.aD (gv.map V.int)):=kp ga _ OL sg3 (wI.ne L7.cE OL λ ps z=>by cases z);have hr8:H8 rd=some (.bD B.cR dr (bV ca tE)):=kp rd _ OK WL (wI.ne L7.cE OK λ ps z=>by cases z);have ca8:tD K H8 (λ b=>S8 b\/b=ga) ca (l.map V.int):=ca7.to λ o e n nt _=>⟨kp ca o e (λ z=>n (.inl z)) (wI.ne L7.cE e nt),λ z=>by
    rcases z with z|z
    rotate_left
    .exact n (.inr z)
    rcases sf ca z with z|z
    .exact n (.inl z)
    .rw[z]at e;cases e⟩
   have OO:∀{b:Addr}{o:HO},H7 b=some o ->¬S b ->¬S8 b:=λ{b o} e n z=>by
    rcases sf b z with z|z
    .exact n z
    .rw[z]at e;cases e
   have ngq:q≠ga:=λ z=>by rw[z,OL]at hq;cases hq
   refine⟨_,rfl,.inl ⟨rfl,_,aP.of WO⟩,_,rfl,q,_,rfl,.inl (aP.of h8),ga,_,_,rfl,rfl,WO,?_,?_⟩
   .rw[ak];exact li (show gv.length<=400000 by omega) zq_dc
   rw[ak];generalize JX:aS H8 ga _=H9;have h9:H9 ga=some (.aD ((gv++[(G.2.length:Int)]).map V.int)):=by rw[<-JX,aa,dZ];rfl
   have h9q:H9 q=some (.aD (G.2.map V.int)):=by rw[<-JX,ag ngq];exact h8
   refine⟨_,rfl,.inl ⟨rfl,_,aP.of h9⟩,_,rfl,ga,q,_,_,rfl,rfl,h9,h9q,?_,?_⟩
   .rw[ak,ak,dc];exact fB (show gv.length+1+G.2.length<=401001 by omega) zq_dc
   have WP:¬S8 ga:=OO OL sg3;have T9:cj C H9:=by rw[<-JX];exact L8.cE.fU WO
   have L9:fY C B H9 ln G.1 S8:=by rw[<-JX];exact L8.RO WP (by rw[JX];exact T9)
   have nrg:rd≠ga:=λ z=>by rw[z,OL]at OK;cases OK
   have Du:∀{b:Addr}{o u:HO},H8 b=some o ->b≠ga ->aS H9 ga u b=some o:=λ{b o u} e n=>by rw[ag n,<-JX,ag n];exact e
   refine⟨Bm.length,ah,⟨f',tE,Bm,G.1,S8,(gv++[(G.2.length:Int)])++G.2,dr,_,_,_,_,rfl,(by rw[ON];exact OH),OM,λ c hc=>OF c (ff _ hc),?_,?_,L9.RO WP (T9.fU h9),Du hr8 nrg,OO OK WL,ca8.to (λ o e n nt ni=>⟨?_,n⟩),?_,WP,rfl⟩⟩
   .rw[dc,dc];show gv.length+1+G.2.length+1001*Bm.length<=400000;omega
   .rw[Sd,dW];show gv++Ds ((p_ m (lC (sg p ns row))).2::Dt p_ (p_ m (lC (sg p ns row))).1 (Bm.map lC))=_;rw[HV m p hp ns row qE,<-hG];show gv++(((G.2.length:Int)::G.2)++Ds (Dt p_ G.1 (Bm.map lC)))=_;simp only[Gq,TY,t_]
   .exact Du e λ z=>n (.inr z)
   .rw[aa,<-dZ]
  .refine gg (show YC (nI p) (([1,13,14,15,16,17,18]:List Nat).map nI)=false by rw[ein];exact OB) ?_;have eu:u1=HZ:=by
    rw[et1,eu1]at e
    injection e with _ e
    exact abF e
   rw[eu]at ed2;obtain⟨tE,xE⟩:=bS (pos+1+nb p);have OK:H6 rd=some (.bD B.cR dr (bV ca tE)):=by rw[xE];exact s6 _ _ hr5
   have WM:H6 r0=some (.aD (row.map V.int)):=by rw[abE];exact adk
   have WN:=s6 _ _ abD;have OL:=s6 _ _ hg5;have L7:=L5.same s6;have sra:=sr0;have ca7:tD K H6 (λ b=>S b\/b=ga) ca (l.map V.int):=ca5.to λ o e n _ _=>⟨s6 _ _ e,n⟩
   have mW:row.length<=100:=by rw[abE];exact ia _
   have OM:tE<=l.length:=by omega
   have ON:l.drop tE=HZ:=by rw[xE];exact ed2
   refine⟨_,rfl,_,rfl,_,rfl,_,rfl,ln,na,r0,p,ns,row,m,S,rfl,hp,L7,WN,WM,sna,sra,qE,mW,λ q H8 S8 hq L8 kp nn sf nq h8=>?_⟩;obtain⟨G,hG⟩:=bS (uI m p ns row);have hGl:G.2.length<=1000:=by rw[hG];exact zA L3 p ns row
   rw[<-hG]at L8 h8;have WO:H8 ga=some (.aD (gv.map V.int)):=kp ga _ OL sg3 (wI.ne L7.cE OL λ ps z=>by cases z);have hr8:H8 rd=some (.bD B.cR dr (bV ca tE)):=kp rd _ OK WL (wI.ne L7.cE OK λ ps z=>by cases z);have ca8:tD K H8 (λ b=>S8 b\/b=ga) ca (l.map V.int):=ca7.to λ o e n nt _=>⟨kp ca o e (λ z=>n (.inl z)) (wI.ne L7.cE e nt),λ z=>by
    rcases z with z|z
    rotate_left
    .exact n (.inr z)
    rcases sf ca z with z|z
    .exact n (.inl z)
    .rw[z]at e;cases e⟩
   have OO:∀{b:Addr}{o:HO},H6 b=some o ->¬S b ->¬S8 b:=λ{b o} e n z=>by
    rcases sf b z with z|z
    .exact n z
    .rw[z]at e;cases e
   have ngq:q≠ga:=λ z=>by rw[z,OL]at hq;cases hq
   refine⟨_,rfl,.inl ⟨rfl,_,aP.of WO⟩,_,rfl,q,_,rfl,.inl (aP.of h8),ga,_,_,rfl,rfl,WO,?_,?_⟩
   .rw[ak];exact li (show gv.length<=400000 by omega) zq_dc
   rw[ak];generalize JX:aS H8 ga _=H9;have h9:H9 ga=some (.aD ((gv++[(G.2.length:Int)]).map V.int)):=by rw[<-JX,aa,dZ];rfl
   have h9q:H9 q=some (.aD (G.2.map V.int)):=by rw[<-JX,ag ngq];exact h8
   refine⟨_,rfl,.inl ⟨rfl,_,aP.of h9⟩,_,rfl,ga,q,_,_,rfl,rfl,h9,h9q,?_,?_⟩
   .rw[ak,ak,dc];exact fB (show gv.length+1+G.2.length<=401001 by omega) zq_dc
   have WP:¬S8 ga:=OO OL sg3;have T9:cj C H9:=by rw[<-JX];exact L8.cE.fU WO
   have L9:fY C B H9 ln G.1 S8:=by rw[<-JX];exact L8.RO WP (by rw[JX];exact T9)
   have nrg:rd≠ga:=λ z=>by rw[z,OL]at OK;cases OK
   have Du:∀{b:Addr}{o u:HO},H8 b=some o ->b≠ga ->aS H9 ga u b=some o:=λ{b o u} e n=>by rw[ag n,<-JX,ag n];exact e
   refine⟨Bm.length,ah,⟨f',tE,Bm,G.1,S8,(gv++[(G.2.length:Int)])++G.2,dr,_,_,_,_,rfl,(by rw[ON];exact OH),OM,λ c hc=>OF c (ff _ hc),?_,?_,L9.RO WP (T9.fU h9),Du hr8 nrg,OO OK WL,ca8.to (λ o e n nt ni=>⟨?_,n⟩),?_,WP,rfl⟩⟩
   .rw[dc,dc];show gv.length+1+G.2.length+1001*Bm.length<=400000;omega
   .rw[Sd,dW];show gv++Ds ((p_ m (lC (sg p ns row))).2::Dt p_ (p_ m (lC (sg p ns row))).1 (Bm.map lC))=_;rw[HV m p hp ns row qE,<-hG];show gv++(((G.2.length:Int)::G.2)++Ds (Dt p_ G.1 (Bm.map lC)))=_;simp only[Gq,TY,t_]
   .exact Du e λ z=>n (.inr z)
   .rw[aa,<-dZ]
 .refine gg (gh OG) ?_;have e0:cC=[]:=by
   rw[Ui ah]at hpc;cases fu<;>exact(cT hpc).symm
  rw[e0]at Sd;have abG:HY l=gv:=by rw[Sd];exact tZ _
  rw[abG]at k;exact⟨_,rfl,k ga H3 XG⟩
def FD(K:aE)(mg:Str ->Option aq)(key x qual:Str)(st:Stmt):Prop:=∃(f:Addr)(fd:bp),mg key=some (.ref f)/\v7 K x qual st f fd
abbrev FE(K:aE)(mg:Str ->Option aq)(x:Str)(st:Stmt):Prop:=FD K mg x x x st
def J2(K:aE)(c:Addr)(m qual:Str)(st:Stmt):Prop:=∃(f:Addr)(fd:bp),mf K (.ref c) m=some (some (.ref f))/\Gb K (.ref f)=true/\v7 K m qual st f fd
def XH(K:aE)(mg:Str ->Option aq)(x:Str)(st:Stmt)(P:Addr):Prop:=∃(f:Addr)(fd:bp)(c:Addr),mg x=some (.ref f)/\Cp K x x st f fd (.ref c)/\mh K (.ref f)=true/\∀h:Heap,K.In h ->PySem.W.CodeHd h c P
def Sg(K:aE)(mg:Str ->Option aq)(x:Str)(c:Addr):Prop:=mg x=some (.ref c)/\KP K c=true/\mh K (.ref c)=true
theorem UK{h:Heap}{key x qual:Str}{st:Stmt}{f:Addr}{oc:aq}{od an:Option Addr}{yC:Array (Option aq)}{kV doc pm b_ ct:aq}(X:K.In h)(G:h.Ns mainGlobals mg)(a:uK K mainGlobals key=some (some (.ref f)):=by k_is)(l:K.lookup f=some ⟨oc,od,.func (pG x qual (jm st) (gX st) (aJ st) .none kV doc pm an b_ ct),yC⟩:=by k_is)
  (c:yD K b_ qual=true:=by k_is) (k:mh K (.ref f)=true:=by k_is):FD K mg key x qual st:=⟨f,_,xF X G a,Ll l c k⟩
theorem WQ{cl:Addr}{m qual:Str}{st:Stmt}{f:Addr}{oc:aq}{od an:Option Addr}{yC:Array (Option aq)}{kV doc pm b_ ct:aq}(a:mf K (.ref cl) m=some (some (.ref f)):=by k_is)(i:Gb K (.ref f)=true:=by k_is)(l:K.lookup f=some ⟨oc,od,.func (pG m qual (jm st) (gX st) (aJ st) .none kV doc pm an b_ ct),yC⟩:=by k_is)
  (c:yD K b_ qual=true:=by k_is) (k:mh K (.ref f)=true:=by k_is):J2 K cl m qual st:=⟨f,_,a,i,Ll l c k⟩
theorem WR{h:Heap}{x:Str}{st:Stmt}{f cd Pt:Addr}{oc:aq}{od an:Option Addr}{yC:Array (Option aq)}{kV doc pm ct:aq}(X:K.In h)(G:h.Ns mainGlobals mg)(a:uK K mainGlobals x=some (some (.ref f)):=by k_is)(l:K.lookup f=some ⟨oc,od,.func (pG x x (jm st) (gX st) (aJ st) .none kV doc pm an (.ref cd) ct),yC⟩:=by k_is)
  (c:yD K (.ref cd) x=true:=by k_is) (k:mh K (.ref f)=true:=by k_is) (e:PySem.W.codeHdIn K cd Pt=true:=by kernel_rfl):XH K mg x st Pt:=⟨f,_,cd,xF X G a,⟨⟨oc,od,kV,doc,pm,an,ct,yC,rfl,l,c⟩⟩,k,λ h X=>PySem.W.codeHd_of_K X e⟩
theorem WS{h:Heap}{x:Str}{c:Addr}(X:K.In h)(G:h.Ns mainGlobals mg)(a:uK K mainGlobals x=some (some (.ref c)):=by k_is)(b:KP K c=true:=by k_is)(d:mh K (.ref c)=true:=by k_is):Sg K mg x c:=⟨xF X G a,b,d⟩
theorem adp{α:Type}{p:List α ->Prop}(h:∀a,p [a]):∀us,us.length=1 ->p us
 |[a],_=>h a
theorem adq{α:Type}{p:List α ->Prop}(h:∀a b,p [a,b]):∀us,us.length=2 ->p us
 |[a,b],_=>h a b
theorem adr{α:Type}{p:List α ->Prop}(h:∀a b c,p [a,b,c]):∀us,us.length=3 ->p us
 |[a,b,c],_=>h a b c
theorem ads{α:Type}{p:List α ->Prop}(h:∀a b c d,p [a,b,c,d]):∀us,us.length=4 ->p us
 |[a,b,c,d],_=>h a b c d
theorem adt{α:Type}{p:List α ->Prop}(h:∀a b c d e,p [a,b,c,d,e]):∀us,us.length=5 ->p us
 |[a,b,c,d,e],_=>h a b c d e
def XI(x qual:Str)(st:Stmt)(ps:List Str):Prop:=∀(kV doc pm:aq)(an:Option Addr)(b_ ct:aq)(us:List aq),us.length=ps.length ->bindArgs (pG x qual (jm st) (gX st) (aJ st) .none kV doc pm an b_ ct) ⟨us,[]⟩=pure (ps.zip us)
theorem Sh{x qual:Str}{st:Stmt}{ps:List Str}(b:XI x qual st ps:=by first|exact λ _ _ _ _ _ _=>adp λ _=>rfl|exact λ _ _ _ _ _ _=>adq λ _ _=>rfl|exact λ _ _ _ _ _ _=>adr λ _ _ _=>rfl|exact λ _ _ _ _ _ _=>ads λ _ _ _ _=>rfl|exact λ _ _ _ _ _ _=>adt λ _ _ _ _ _=>rfl):XI x qual st ps:=b
inductive Tk (P:dz) (w:c9) (mg:Str ->Option aq) (base:Heap):Prop
 |mk
theorem aQ{key x qual:Str}{st:Stmt}{ps:List Str}{k:Nat}{sp:Sp}(_:Tk P w mg base)(h:FD K mg key x qual st)
  (ok:∀{f:Addr}{fd:bp},v7 K x qual st f fd ->bj P w K mg base CX0 k f fd ps sp) (b:XI x qual st ps:=by exact Sh):cF P w K mg base key ps k sp:=by
 obtain⟨f,fd,hm,F⟩:=h;exact⟨f,fd,hm,F.kp,F.qK b,ok F⟩
theorem vF{x:Str}{st:Stmt}{Pt:Addr}{ps:List Str}{k:Nat}{sp:Sp}(_:Tk P w mg base)(h:XH K mg x st Pt)(hB:BU mg base)
  (ok:∀{f:Addr}{fd:bp}{b_:aq},Cp K x x st f fd b_ ->BV K mg base b_ Pt ->bj P w K mg base CX0 k f fd ps sp) (b:XI x x st ps:=by exact Sh):cF P w K mg base x ps k sp:=by
 obtain⟨f,fd,c,hm,F,kp,hc⟩:=h;refine⟨f,fd,hm,kp,?_,ok F ⟨⟨c,rfl,hc⟩,hB⟩⟩;obtain⟨oc,od,kV,doc,pm,an,ct,yC,rfl,lk,D8⟩:=F.ex;exact .all (b kV doc pm an _ ct)
theorem l7{x qual:Str}{c:Addr}{st:Stmt}{ps:List Str}{k:Nat}{sp:Sp}(_:Tk P w mg base)(hc:Sg K mg x c)(h:J2 K c "__init__" qual st)
  (ok:∀{f:Addr}{fd:bp},v7 K "__init__" qual st f fd ->bj P w K mg base CX0 k f fd ps sp) (b:XI "__init__" qual st ps:=by exact Sh):tj P w K mg base x c ps k sp:=by
 obtain⟨hm,mk,kc⟩:=hc;obtain⟨f,fd,a,i,F⟩:=h;exact⟨f,fd,hm,⟨mk,a,i,kc⟩,F.qK b,ok F⟩
theorem FH{m qual:Str}{c:Addr}{st:Stmt}{ps:List Str}{k:Nat}{sp:Sp}(_:Tk P w mg base)(h:J2 K c m qual st)
  (ok:∀{f:Addr}{fd:bp},v7 K m qual st f fd ->bj P w K mg base CX0 k f fd ps sp) (b:XI m qual st ps:=by exact Sh):XF P w K mg base c m ps k sp:=by
 obtain⟨f,fd,a,i,F⟩:=h;exact⟨f,fd,⟨a,i,F.kp⟩,F.qK b,ok F⟩
structure UL(K:aE)(mg:Str ->Option aq)(C:CA)(B:CB)(Pf Po Ps Pd:Addr):Prop where
 Dv:FE K mg "give_turn" uh
 J3:FE K mg "is_over" yZ
 xG:FE K mg "aged_urgency" nZ
 u7:FE K mg "deadline_rank" mB
 WT:FE K mg "rank" Mf
 AU:FE K mg "ready_jobs" lO
 yi:XH K mg "first_ready" pQ Pf
 tF:XH K mg "ready_in_order" lr Po
 pz:XH K mg "sleepers_in_order" gb Ps
 AV:FE K mg "make_ready" rn
 yj:FE K mg "fall_asleep" pT
 si:FE K mg "begin_next_part" ki
 l8:FD K mg "run_one_tick_machine" "run_one_tick" "run_one_tick" n8
 tG:FE K mg "settle_in_turn" lu
 qx:FE K mg "settle_by_levels" jL
 OP:FE K mg "settle" Ck
 u9:FE K mg "wake_sleepers" mC
 u_:FE K mg "let_in_coming" mD
 yk:FE K mg "lift_levels" pR
 sj:FE K mg "let_others_wait" kh
 WU:FE K mg "tick" Mg
 Dx:FE K mg "is_within" ui
 AW:FE K mg "are_within" rp
 Dy:FE K mg "are_parts" um
 Dz:FE K mg "stretches" uo
 qy:FE K mg "greatest_divisor" jK
 l9:FE K mg "pass_in_lowest_terms" g6
 Sj:FE K mg "ticks" GX
 Sk:FE K mg "trace" GZ
 yl:FE K mg "job_numbers" pU
 WV:FE K mg "kill" Mi
 OQ:FE K mg "change" Cn
 Sl:FE K mg "state" GY
 Sm:FE K mg "order" Aa
 FI:FE K mg "sleepers" wx
 FJ:FE K mg "all_over" qk
 tH:FE K mg "run_until_over" ls
 AX:FE K mg "until_over" rA
 DA:FE K mg "in_groups" oe
 AY:FE K mg "are_groups" lQ
 J4:Sg K mg "OnceJob" B.cO
 J5:J2 K B.cO "__init__" "OnceJob.__init__" n_
 WX:Sg K mg "Kind" B.cK
 WY:J2 K B.cK "__init__" "Kind.__init__" uj
 DB:FE K mg "once_jobs" oh
 FK:FE K mg "kinds_of" ql
 va:FE K mg "are_once_jobs" mH
 DC:FE K mg "are_kinds" og
 DD:XH K mg "first_due" oa Pd
 AZ:FE K mg "done_times" jo
 pA:FE K mg "greatest_lateness" gc
 xH:FE K mg "must_be_done" jP
 FL:FE K mg "tightest" lP
 WZ:FE K mg "once" Mh
 Sn:FE K mg "tight" GU
 tI:FE K mg "least_multiple" lq
 A3:FE K mg "divided_up" rj
 xI:FE K mg "common_round" n9
 DE:FE K mg "due_count" uk
 xJ:FE K mg "demand_until" jN
 pB:FE K mg "needs_by_due_time" i_
 tJ:FE K mg "first_overload" lw
 ym:FE K mg "response_of" kJ
 FM:Sg K mg "Progress" B.cP
 FN:J2 K B.cP "__init__" "Progress.__init__" mE
 vc:FE K mg "oldest_coming" mF
 oN:FD K mg "run_one_tick_kinds" "run_one_tick" "run_one_tick" mG
 xK:FE K mg "run_by_ranks" jO
 OR:FE K mg "demand" Cm
 So:FE K mg "again" GV
 FO:FE K mg "response" wv
 OS:FE K mg "ranked" rq
 OT:FE K mg "totals" wy
 A4:FE K mg "wait_bound" rm
 Sq:FE K mg "bound" G0
 abH:Sg K mg "Job" C.cJ
 abI:J2 K C.cJ "__init__" "Job.__init__" wr
 J6:Sg K mg "Machine" C.cM
 J7:J2 K C.cM "__init__" "Machine.__init__" n6
 FP:FE K mg "job_anew" wt
 xL:FE K mg "machine_anew" jM
 vd:FE K mg "lateness_told" i4
 J8:FE K mg "outcome" lv
 FQ:FE K mg "outcomes" wu
 J9:FE K mg "compare" y6
 Sr:FE K mg "begin" GW
 FR:FE K mg "tell_job" ww
 ve:FE K mg "answer_on_row" i5
 OU:FE K mg "answer" wz
 OV:Sg K mg "Reader" B.cR
 OW:J2 K B.cR "__init__" "Reader.__init__" pV
 W0:Sg K mg "Line" B.cL
 W4:J2 K B.cL "__init__" "Line.__init__" ul
 FS:J2 K B.cR "has_more" "Reader.has_more" kj
 FT:J2 K B.cR "take_one" "Reader.take_one" kl
 DF:J2 K B.cR "take_many" "Reader.take_many" jQ
theorem W6{f:Addr}{fd:bp}{Pf Po Ps Pd:Addr}(T:Txt K mg C)(U:cQ K mg)(TB:iw K B)(TD:R6 K mg)(TE:WH K mg)(J_:wO C Pf wE)(Ss:wO C Po Mt)(A5:wO C Ps EI)(Su:wO C Pd Dh)(hs:UL K mg C B Pf Po Ps Pd)(Fa:v7 K "answers" "answers" oW f fd)(hB:BU mg base):bj P w K mg base CX0 14 f fd ["calls"] (spAll K C):=by
 have Z:Tk P w mg base:=.mk;have iV:=aQ Z hs.Dv λ F=>QL F T
 have o8:=aQ Z hs.J3 λ F=>QM F T
 have xM:=aQ Z hs.xG λ F=>QN F T
 have vf:=aQ Z hs.u7 λ F=>ZX F T
 have OX:=aQ Z hs.WT λ F=>QP F T xM vf
 have l_:=aQ Z hs.AU λ F=>Mn F T
 have yn:=vF Z hs.yi hB λ F hh=>Mq F T hh l_ OX
 have tK:=vF Z hs.tF hB λ F hh=>VQ F T hh l_ OX
 have jh:=vF Z hs.pz hB λ F hh=>VR F T hh
 have so:=aQ Z hs.AV λ F=>QR F T iV
 have yo:=aQ Z hs.yj λ F=>QS F T iV
 have sr:=aQ Z hs.si λ F=>QT F T yo
 have md:=aQ Z hs.l8 λ F=>VT F T sr
 have tL:=aQ Z hs.tG λ F=>QU F T iV
 have qz:=aQ Z hs.qx λ F=>QV F T iV
 have OY:=aQ Z hs.OP λ F=>IQ F T iV tL qz
 have vg:=aQ Z hs.u9 λ F=>QZ F T A5.1 A5.2 jh so
 have vh:=aQ Z hs.u_ λ F=>Q3 F T so
 have yp:=aQ Z hs.yk λ F=>Q4 F T
 have ss:=aQ Z hs.sj λ F=>Q5 F T l_
 have OZ:=aQ Z hs.WU λ F=>Q7 F T J_ vg vh yp yn ss md OY
 have oO:=aQ Z hs.Dx λ F=>Je F
 have cg:=aQ Z hs.AW λ F=>Ri F T oO
 have DG:=aQ Z hs.Dy λ F=>M_ F T U oO
 have oP:=aQ Z hs.Dz λ F=>V8 F T
 have jX:=aQ Z hs.qy λ F=>V9 F
 have h_:=aQ Z hs.l9 λ F=>V_ F T jX
 have Sv:=aQ Z hs.Sj λ F=>Ni F T U cg OZ oP
 have Sw:=aQ Z hs.Sk λ F=>Nk F T U cg oP
 have iG:=aQ Z hs.yl λ F=>Rl F T
 have W7:=aQ Z hs.WV λ F=>Rm F T U cg iG o8
 have O0:=aQ Z hs.OQ λ F=>Jm F T U cg iG o8
 have Sx:=aQ Z hs.Sl λ F=>Nn F T U cg iG h_
 have Sy:=aQ Z hs.Sm λ F=>No F T Ss tK
 have FU:=aQ Z hs.FI λ F=>Np F T A5 jh
 have xN:=aQ Z hs.FJ λ F=>Rq F T o8
 have lE:=aQ Z hs.tH λ F=>Rr F T OZ xN
 have A6:=aQ Z hs.AX λ F=>Nq F T U cg lE xN
 have iW:=aQ Z hs.DA λ F=>Jy F T
 have su:=aQ Z hs.AY λ F=>Rx F T oO cg iW
 have FV:=l7 Z hs.J4 hs.J5 λ F=>NJ F TB
 have H_:=l7 Z hs.WX hs.WY λ F=>NK F TB
 have uL:=aQ Z hs.DB λ F=>NL F T U iW FV
 have qA:=aQ Z hs.FK λ F=>NM F T U iW H_
 have mQ:=aQ Z hs.va λ F=>Ry F U su
 have kG:=aQ Z hs.DC λ F=>Rz F T U su iW
 have DH:=vF Z hs.DD hB λ F hh=>Wm F T TB hh
 have A7:=aQ Z hs.AZ λ F=>NP F T TB DH
 have pC:=aQ Z hs.pA λ F=>RE F T TB
 have xO:=aQ Z hs.xH λ F=>RF F T TB
 have FW:=aQ Z hs.FL λ F=>Di F T TB xO
 have W8:=aQ Z hs.WZ λ F=>RH F T U Su mQ uL A7 pC
 have Sz:=aQ Z hs.Sn λ F=>NU F T U mQ uL FW
 have tM:=aQ Z hs.tI λ F=>Wr F jX
 have A8:=aQ Z hs.A3 λ F=>RI F
 have xP:=aQ Z hs.xI λ F=>NY F TB tM
 have DI:=aQ Z hs.DE λ F=>RJ F TB
 have xQ:=aQ Z hs.xJ λ F=>Ws F T TB DI
 have pD:=aQ Z hs.pB λ F=>N0 F T TB
 have tN:=aQ Z hs.tJ λ F=>N3 F T pD
 have yq:=aQ Z hs.ym λ F=>RL F T TB A8
 have DJ:=l7 Z hs.FM hs.FN λ F=>N7 F TB
 have mR:=aQ Z hs.vc λ F=>Wt F TB
 have oQ:=aQ Z hs.oN λ F=>RN F T TB mR
 have xR:=aQ Z hs.xK λ F=>N_ F T TB DJ mR oQ
 have O9:=aQ Z hs.OR λ F=>JH F T U cg kG qA xQ
 have SA:=aQ Z hs.So λ F=>Oa F T U kG qA xP tN
 have FX:=aQ Z hs.FO λ F=>Dl F T U kG qA yq
 have O_:=aQ Z hs.OS λ F=>JI F T TB U cg kG iW H_ xR
 have Pa:=aQ Z hs.OT λ F=>JJ F T U o8 oP h_
 have A9:=aQ Z hs.A4 λ F=>abi F T
 have SD:=aQ Z hs.Sq λ F=>Oe F T U cg iG A9
 have Pb:=l7 Z hs.abH hs.abI λ F=>RP F T
 have xS:=l7 Z hs.J6 hs.J7 λ F=>Of F T
 have FY:=aQ Z hs.FP λ F=>RQ F T Pb
 have xT:=aQ Z hs.xL λ F=>Oh F T xS FY
 have vi:=aQ Z hs.vd λ F=>RV F T
 have Ka:=aQ Z hs.J8 λ F=>Wz F T vi
 have FZ:=aQ Z hs.FQ λ F=>RW F T U xT lE Ka
 have Kb:=aQ Z hs.J9 λ F=>FA F T U cg FZ
 have SE:=aQ Z hs.Sr λ F=>Oq F T TB U cg xS
 have F0:=aQ Z hs.FR λ F=>Ov F T U cg DG Pb
 have vj:=aQ Z hs.ve λ F=>WD F U TD ⟨W8,Sz,O9,SA,FX,O_⟩
 have Pc:=aQ Z hs.OU λ F=>WE F T TB U TD SE vj ⟨F0,Sv,A6,W7,O0,Sx,Sy,FU,Sw,Pa,Kb,SD⟩
 have Kc:=l7 Z hs.OV hs.OW λ F=>WF F TB
 have SF:=l7 Z hs.W0 hs.W4 λ F=>WG F TB
 have DK:=FH Z hs.FS λ F=>R_ F T TB
 have DL:=FH Z hs.FT λ F=>Sa F TB
 have A_:=FH Z hs.DF λ F=>Sb F TB
 exact WJ Fa T TB TE Kc SF DK DL A_ Pc
end
end JS
namespace HD
open PySem PySem.Spec PyProof.Rows L2 JS
theorem Pe{l:List V}{u:List aq}(v:bv l u:=by repeat' (first|exact YJ|apply YK|exact⟨_,rfl⟩|exact rfl)):bv l u:=v
section
variable{K:aE}{mg:Str ->Option aq}{h:Heap}
theorem adu{n:Str}{z:Int}{t:Tok}(X:K.In h)(G:h.Ns mainGlobals mg)(e:uK K mainGlobals n=some (some (.int z t))):∃t,mg n=some (.int z t):=⟨t,xF X G e⟩
theorem cU{a:Addr}{o:Obj}{bb:Array aq}{k:Nat}{l:List V}(q:K.lookup a=some o:=by k_is)(c:o.cls=.type "tuple":=by rfl)(d:o.data=.seq bb k:=by rfl)(s:bb.size<=sizeLine:=by decide+kernel)(v:bv l bb.toList:=by exact HD.Pe):∀H:Hp,e9 K H a l:=λ _=>.inr ⟨o,bb,k,q,c,d,s,v⟩
theorem Ba{n:Str}{a:Addr}{o:Obj}{bb:Array aq}{k:Nat}{l:List V}(X:K.In h)(G:h.Ns mainGlobals mg)(e:uK K mainGlobals n=some (some (.ref a)):=by k_is)(q:K.lookup a=some o:=by k_is)(c:o.cls=.type "tuple":=by rfl)(d:o.data=.seq bb k:=by rfl)(s:bb.size<=sizeLine:=by decide+kernel)(v:bv l bb.toList:=by exact HD.Pe):∃t,mg n=some (.ref t)/\∀H:Hp,e9 K H t l:=⟨a,xF X G e,cU q c d s v⟩
theorem kR(prs:List (Addr×(Int×Int))){n:Str}{a:Addr}{o:Obj}{bb:Array aq}{k:Nat}{l:List (Str×List (Int×Int))}(X:K.In h)(G:h.Ns mainGlobals mg)(i:∀p∈prs,∀H:Hp,e9 K H p.1 [.int p.2.1,.int p.2.2])(L:∀p∈l,∃t,mg p.1=some (.ref t)/\∀H:Hp,g8 K H t p.2)(e:uK K mainGlobals n=some (some (.ref a)):=by k_is)(q:K.lookup a=some o:=by k_is)(c:o.cls=.type "tuple":=by rfl)(d:o.data=.seq bb k:=by rfl)(s:bb.size<=sizeLine:=by decide+kernel)(v:bv (prs.map λ p=>V.ref p.1) bb.toList:=by exact HD.Pe):∀p∈(n,prs.map (·.2))::l,∃t,mg p.1=some (.ref t)/\∀H:Hp,g8 K H t p.2:=by
 refine sv.mpr ⟨?_,L⟩;refine⟨a,xF X G e,λ H=>⟨prs.map (·.1),?_,by rw[ak,ak],λ j b r h1 h2=>?_⟩⟩
 .rw[bB];exact cU q c d s v H
 .rw[aT]at h1 h2;cases e:prs[j]?with
  |none=>rw[e]at h1;cases h1
  |some p=>
   rw[e]at h1 h2;cases h1;cases h2;exact i p (cH e) H
theorem F1{C:Addr}(a:Ga K C Str.empty=true:=by k_is)(b:KL K C=true:=by k_is)(c:SS K C=true:=by k_is)(d:mf K (.ref C) "__setattr__"=some (some (.builtin "object.__setattr__")):=by k_is):sw K C:=⟨a,b,c,d⟩
theorem noC{c:Addr}{n:Str}{l:List Str}(b:∀f∈l,dD K c f)(a:mf K (.ref c) n=some none:=by k_is):∀f∈n::l,dD K c f:=sv.mpr ⟨a,b⟩
theorem abJ{n:Str}{z:Int}{t:Tok}{l:List (Str×Int)}(X:K.In h)(G:h.Ns mainGlobals mg)(b:∀p∈l,∃t,mg p.1=some (.int p.2 t))(e:uK K mainGlobals n=some (some (.int z t)):=by k_is):∀p∈(n,z)::l,∃t,mg p.1=some (.int p.2 t):=sv.mpr ⟨⟨t,xF X G e⟩,b⟩
theorem adv{n:Str}{l:List Str}(X:K.In h)(G:h.Ns mainGlobals mg)(b:∀f∈l,mg f=none)(e:uK K mainGlobals n=some none:=by k_is):∀f∈n::l,mg f=none:=sv.mpr ⟨PySem.W.mg_none_of X G e,b⟩
theorem abK{n:Str}{x y:Int}{l:List (Str×(Int×Int))}(b:∀p∈l,∃t,mg p.1=some (.ref t)/\∀H:Hp,e9 K H t [.int p.2.1,.int p.2.2])(e:∃t,mg n=some (.ref t)/\∀H:Hp,e9 K H t [.int x,.int y]):∀p∈(n,(x,y))::l,∃t,mg p.1=some (.ref t)/\∀H:Hp,e9 K H t [.int p.2.1,.int p.2.2]:=sv.mpr ⟨e,b⟩
theorem vG{a:Addr}{x y:Int}{l:List (Addr×(Int×Int))}(b:∀p∈l,∀H:Hp,e9 K H p.1 [.int p.2.1,.int p.2.2])(e:∀H:Hp,e9 K H a [.int x,.int y]):∀p∈(a,(x,y))::l,∀H:Hp,e9 K H p.1 [.int p.2.1,.int p.2.2]:=sv.mpr ⟨e,b⟩
theorem oR{α:Type}{p:α ->Prop}:∀f∈([]:List α),p f:=λ _ z=>nomatch z
theorem zC{n:Str}{v:aq}(X:K.In h)(G:h.Ns mainGlobals mg)(e:uK K mainGlobals n=some (some v):=by k_is):mg n=some v:=xF X G e
def abL(C:CA)(Pt:Addr)(qn:Str):Bool:=C.cE.any (λ q=>q.1==Pt&&q.2==qn)&&C.cE.all λ q=> !(q.1==Pt)||q.2==qn
theorem vH{C:CA}{Pt:Addr}{qn:Str}(e:abL C Pt qn=true:=by decide+kernel):wO C Pt qn:=by
 unfold abL at e;obtain⟨a,b⟩:=Lo.mp e;obtain⟨⟨q1,q2⟩,hq,e1⟩:=Hw.mp a;obtain⟨e2,e3⟩:=Lo.mp e1;have e2':q1=Pt:=eq_of_beq e2;have e3':q2=qn:=eq_of_beq e3;subst e2' e3';refine⟨hq,λ q hm hz=>?_⟩;have:=fG.mp b q hm;rcases Bool.or_eq_true_iff.mp this with z|z
 .rw[hz,beq_self_eq_true]at z;cases z
 .exact eq_of_beq z
theorem Pg{f:Addr}{fd:bp}(F:v7 K "answers" "answers" oW f fd):∀(s:ap)(us:List aq),us.length=(["calls"]:List Str).length ->Ge s fd ⟨us,[]⟩ ((["calls"]:List Str).zip us):=by
 obtain⟨oc,od,kV,doc,pm,an,b_,ct,yC,rfl,lk,D8⟩:=F.ex;exact λ s us hu=>match us,hu with|[_],_=>.of_eq rfl
theorem SG{C:CA}{cE:List (Addr×Addr)}{H:Hp}(h:Ci (cE.map (·.2)) H)(e:∀p∈C.cE,p.1∈cE.map (·.2)):cj C H:=λ p hp=>by
 rcases h p.1 with⟨_,z⟩|⟨z,_⟩
 .exact⟨[],z,λ t ht=>nomatch ht⟩
 .exact absurd (e p hp) z
end
def tabsL:List (Addr×Addr):=[(102,98),(109,105),(176,174),(414,412)]
def theC:CA:=⟨135,52,[(98,wE),(105,Mt),(174,EI),(412,Dh)]⟩
theorem S_part(K:aE)(H:Hp)(xs:List V)(a:adW uM.args)(hO:Ci (tabsL.map (·.2)) H)(hask:abM uM.args uM.asked a=true)
  (hx:jH K H xs (adX uM.args a)):spAll K theC xs H (λ v H'=>Dw K H' v (uM.ret.enc (abM uM.args uM.f a))) λ _ _ _=>False:=by
 cases hx with
 |cons h1 h2=>
  cases h2;cases h1 with
  |aD hs ha=>
   have e:=L2.Gx a.1 _ ha;subst e;exact⟨_,a.1,rfl,hs,hask,SG hO zq_dc,λ p H' hp=>.aD (L2.aP.of hp) (L2.Gw _)⟩
end HD
open PySem PySem.W PyProof.Rows
theorem PySem.Challenge.cw_jobsched_s01_answers_holds : PySem.Challenge.rw_jobsched_s01_answers.Holds := by
 w_on
 refine hd ?_
 k_fillS
 refine L2.walk_specT (r:=uM) (k:=14) (CX:=L2.CX0) (ps:=["calls"]) (sp:=λ K=>JS.spAll K HD.theC) HD.tabsL zq_dk rfl rfl ⟨rfl,zq_dc,zq_dc⟩ (λ w h Y=>PySem.W.kIn_of Y) ?nT ?T ?F (λ K H xs a hO _ hask hx=>HD.S_part K H xs a hO hask hx) (λ _ _ _ _ z=>z)
 case nT=>intro w;kernel_rfl
 case T=>
  intro w mean mg mb h T X;exact sv.mpr ⟨Ph (x:=cZ "first_ready") (c:=102) (P:=98) T X rfl (by kernel_rfl),sv.mpr ⟨Ph (x:=cZ "ready_in_order") (c:=109) (P:=105) T X rfl (by kernel_rfl),sv.mpr ⟨Ph (x:=cZ "sleepers_in_order") (c:=176) (P:=174) T X rfl (by kernel_rfl),sv.mpr ⟨Ph (x:=cZ "first_due") (c:=414) (P:=412) T X rfl (by kernel_rfl),λ _ z=>nomatch z⟩⟩⟩⟩
 case F=>
  intro w mg fa h Y KX G hmg;have Fa:JS.FE (hd.heap_1 w.params) mg "answers" JS.oW:=JS.UK KX G;have T:JS.Txt (hd.heap_1 w.params) mg HD.theC:=by
   refine⟨HD.F1,HD.F1,?_,?_,?_,?_,HD.Ba KX G⟩
   iterate 2 (exact by repeat' (first|exact HD.oR|refine HD.noC ?_))
   .repeat' (first|exact HD.oR|refine HD.abJ KX G ?_)
   .repeat' (first|exact HD.oR|refine HD.adv KX G ?_)
  have U:JS.cQ (hd.heap_1 w.params) mg:=by
   refine⟨?_,HD.kR [(535,0,5),(536,1,20),(537,0,20),(538,0,100)] KX G (HD.vG (HD.vG (HD.vG (HD.vG (HD.oR) HD.cU) HD.cU) HD.cU) HD.cU) (HD.kR [(540,0,500),(541,0,9),(542,1,100),(543,0,1000),(544,1,10)] KX G (HD.vG (HD.vG (HD.vG (HD.vG (HD.vG (HD.oR) HD.cU) HD.cU) HD.cU) HD.cU) HD.cU) (HD.kR [(546,1,200)] KX G (HD.vG (HD.oR) HD.cU) (HD.kR [(548,1,1000)] KX G (HD.vG (HD.oR) HD.cU) (HD.kR [(555,1,400)] KX G (HD.vG (HD.oR) HD.cU) (HD.kR [(436,0,60),(437,1,20),(438,0,200)] KX G (HD.vG (HD.vG (HD.vG (HD.oR) HD.cU) HD.cU) HD.cU) (HD.kR [(441,1,12),(442,1,12),(443,1,12)] KX G (HD.vG (HD.vG (HD.vG (HD.oR) HD.cU) HD.cU) HD.cU) (HD.kR [(445,1,12),(446,1,12),(447,1,12),(448,0,30)] KX G (HD.vG (HD.vG (HD.vG (HD.vG (HD.oR) HD.cU) HD.cU) HD.cU) HD.cU) (HD.kR [(451,0,10000)] KX G (HD.vG (HD.oR) HD.cU) (HD.kR [(453,0,300)] KX G (HD.vG (HD.oR) HD.cU) (HD.oR)))))))))),?_⟩
   .repeat' (first|exact HD.oR|refine HD.abK ?_ (HD.Ba KX G))
   .repeat' (first|exact HD.oR|refine HD.abJ KX G ?_)
  have TB:JS.iw (hd.heap_1 w.params) ⟨307,328,406,573,733⟩:=by
   constructor
   all_goals first|exact HD.F1|(repeat' (first|exact HD.oR|refine HD.noC ?_))
  have TD:JS.R6 (hd.heap_1 w.params) mg:=⟨⟨527,493,500,507,514,521,526,HD.zC KX G,HD.zC KX G,HD.zC KX G,HD.zC KX G,HD.zC KX G,HD.zC KX G,HD.zC KX G,HD.cU⟩,⟨686,612,619,626,633,640,647,652,659,666,671,678,685,HD.zC KX G,HD.zC KX G,HD.zC KX G,HD.zC KX G,HD.zC KX G,HD.zC KX G,HD.zC KX G,HD.zC KX G,HD.zC KX G,HD.zC KX G,HD.zC KX G,HD.zC KX G,HD.zC KX G,HD.cU⟩⟩;have TE:JS.WH (hd.heap_1 w.params) mg:=⟨HD.Ba KX G,HD.Ba KX G⟩;have hs:JS.UL (hd.heap_1 w.params) mg HD.theC ⟨307,328,406,573,733⟩ 98 105 174 412:=by
   constructor
   all_goals first|exact JS.UK KX G|exact JS.WQ|exact JS.WR KX G|exact JS.WS KX G
  obtain⟨fa',fd,hm,Fa⟩:=Fa;have e1:fa=fa':=adY (cT (hmg.symm.trans hm));subst e1;exact⟨fd,HD.Pg Fa,λ base _ _ hB=>JS.W6 T U TB TD TE HD.vH HD.vH HD.vH HD.vH hs Fa hB⟩
