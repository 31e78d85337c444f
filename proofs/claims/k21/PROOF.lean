import PyProof.Rows.All
import Wide.All
import OpenK.AllK
import Wide.FinOn
import Lean
import PyProof.EqAt
import PyProof.EqKinds
import PyProof.TupleCall
import PyProof.CollectIter
import PyProof.JoinWalk
import PyProof.StrOps
import PyProof.ListOps
import PyProof.StrLawsJoin
import KE.KRevIter
import PyProof.StrLawsFirst
import PyProof.Rows.StrNews2
import PyProof.StrLawsTight
import PyProof.StrLawsChain
import KE.KIntText
import KE.IntTextLaws
import PyProof.ListStr
import KE.KDictLaws
import KE.KDictList
import PyProof.Rows.SetFrom
import PyProof.FitsReplace
import KE.KEqDict
import PyProof.Rows.SumAny
import PyProof.Rows.CallKwBuiltin
import PyProof.EnumMake
import PyProof.TupleIter
import PyProof.Rows.TupIter
import PyProof.FactsAll.range_2
import PyProof.AutoSeq1
import PyProof.Rows.Range3
import PyProof.ZipIter
import PyProof.Rows.SortRuns
import PyProof.Rows.SortPure
import PyProof.Rows.SortShell
import PyProof.Rows.SortStr
import PyProof.MeetsSeq3
import KE.KSortTup
import KE.KSortKey
import PySem.Challenge.RW_quiltlaw_k21_whole_table_by_a_model
set_option bootstrap.genMatcherCode false
set_option tactic.hygienic false
local macro_rules|`($m:declModifiers def $i:declId $s:optDeclSig $v:declVal)=>do
 if m.raw != (<-`(def x:=0)).raw[0]then Lean.Macro.throwUnsupported
 `(noncomputable def $i $s $v:declVal)
local macro_rules|`($m:declModifiers abbrev $i:declId $s:optDeclSig $v:declVal)=>do
 if m.raw != (<-`(def x:=0)).raw[0]then Lean.Macro.throwUnsupported
 `(noncomputable abbrev $i $s $v:declVal)
local macro_rules|`(command|set_option $o:ident $s:str)=>do
 if o.getId != `tw then Lean.Macro.throwUnsupported
 let n:=s.getString.toList.toArray.map λc=>if c.toNat<64 then c.toNat-35 else if c.toNat<92 then c.toNat-36 else c.toNat-37
 let a<-(List.range (n.size/10)).toArray.mapM λi=>let x:=(List.range 10).foldl (λa j=>a*90+n[10*i+j]!) 0;let y:=Lean.mkIdent (.mkSimple s!"tw{x}");`(command|theorem $y:ident:True:=⟨⟩)
 return Lean.mkNullNode a
namespace PySem.W.Fast
set_option tw "-OlSYx}p+7/f$2-K(aS5EJ(L)99(o;O[5+W<g.hJ3d>Y#RVTjsHwFBt6=b*948DfS_J?FP?S]syR5^2)8}R>|tK9fJ4liFd>;g)/A7`PSi)hW9,k5Lo?M,hJ9<PMDV]sB?$seWzn7QAo-<:NYE5:pK*`:ZVID>jhPFI(y`Z|mzDO/9[qY6E6=2&});U4Rn+*ysCvgbr`<:yau%]GgEPp^yi=V~4x8>u4TrO/XE*AfTyfKbNfCcmO,rCY&|&vv{FV&dCl.bV34+YFrd8f-Jj=%Lq~>k)bf^6eRQ+8p{FNMnWl0[Zx)ppGcf-%}XG-(jc<'h)*:*#dX1P3<s?AdM|D%$QiTUI;xaFvp%kUDw{1DVh;g7sssRGE08*;61}%Ky~2ne|z|D;*c&pT-<?{7>AmSQ?=&?:RA7kM%QiJ+_j,+]]5&/Pmi)Ki{zpeADW4q9'4k%2?aKX|?Xs91>)UjGl{8eM~_Xh.6S;t6(tt%z6/#pH29Caif6`UFTbw&O$--d6aAZO9=WzIHKDFQWI[32DbR|Cw3$wOD>jNr'Opgp9Q&^q<J{uOD,Kdie#'cK<w=Hius}:A.KEU%]CAu|IT-2W?.1KB2(l{]qP~VP00=Jv~WvxN'&k;)rdB2BG$$&.{|HQo:?}5*g<H/XG])cml7G];0B]{HKK?,g-=F4q3*2gaNhPRgNAhq}BRQDU&1RE5E,d5Fy6|3u+r/DA1PuXa(}]T9;8<6-?*X9%.<?qiK&8YLl/G2%PiTu_IlXg]&Pwt<i.&7]HR|Qp.%w]P+g49RliG(J$q}Q=s%:}L4hcqmyy:|56ciVQ^xD;qMpV)cHRQ:oSGqfe/S{Qg#J(ydgPX|c%Y*4uj7M${1p3&cX?#}yM0nNTHzHIo5d0JUB8zNi,r3P?w,ceH8%~`tMgvpF%RvdC8fWsXM+CKGV(vD~P:i:(Wa}O[%Jr>0yAlG60sA#X{A}yYO+WM>`(warRmo3]XY6Lf$Oyk6gwM%A<I]jk->t;E)%joMnH?T(:tRw}0]sPjFj,^6H~-lC5*K5e_S=vp$+kp^2)MLvNpVat:C#Y>$PT/s>Xk%,EYwDqD'F{E?|i3ETw<iMRJASIT?XJ<)xI*.,VTjhFI?^a6hV,.L.D%SCuZOCHi]p9vHuKC7r(P}p/Ucj$Y3KED%*Ln37zvV+Ud5rC^4AasDt9Q4iH;l{pr5jCuvR8kBdY;CTWfoa+6AL6C>8_W}8p'?*[dFC?*e=Fwq+rKoqg%'M0p1V|W+w=7T5,YM{SuI]fRs>=3075717mM|I.qBaHhak+nzDCSx)*lm#h+*EWVHCJrFc9r&nz6/fjT17kYTqw4OyF+s,|/H`;-2zB{sFawW3I`Gohxa6.PNiQz+URYSqJs3/Kf=6CX$]Z_&].Q=9;$xY]z~f^DAYMe8wGsqB9zP[(KEWZJ*v(s]bgMe%?vU.Kt]?-hOTCK3tuq'd)&p>0JV3G,5g?nI/c|V*KN11$3;Px,5(aA|HQP4YBu4Y)$f8?h,_t]Cl^/b0)tJ#Op7i}[.YA+FQbWR:9>(up6Oe9hD';Fhq^CR|.d:<$jk/5h=Z~g9aa,>IKN{*L.gq<Q,8-ha]#A&I%peGto)^XOL]VTc57+.M?gmVf->|q`9w?g0.%Nt^6|?jT,6&U^2Gas)MO`trG'cbNIZ-jc,Kp*y[eQO))YNDo056aH?]2kQV9wLe&+B+yG(aDD<O]T653/VHGCyy<dXhxB(Mh?}D/FBy6;|ICf'9d==hiX}emNQs2uvJ3/{m]m3/A;1udW8F$3&mV5je<9:vn$.WKN0JJRd<,,x_W-,(gUZIWn2{KcvqMYTysaLSOT*23G'i&gOBL_Oqhw._G76#ax;P1^3R3EGaE9#Rf8+dwCsD*yUgYASm)I<jPxs{Y3Lv:Zw7hx-p'Y7w]T~0U`#(PwpKP/eA~O4M%8W)g-$:LfglArMVif6#/[#,QbUG9Adc[=2,%~>7%7SCI4xC;'v;^et_|6;Cv^?CVq(|*VC,dGxDeEMNQmQp=M1^D,7am_SO(&Kx*VFUAJ:&4aV)&bFDb|EMda/y#bv`5*_pD)bet>Hh,2pNypOC3*Tqb>b|[d:XfVfW)w#$*qu(Hh^Q#bMV]7'5)ZobSL2%d5O+>W3O()|WT3~24xdrJM}eu_=jav)z%<k-&4ZqWl/A3)/R|%zRoJM}BVfTTy?zxLCMcedWb%W?<{c:'{U*h]KwZ9p+dq1ZA~tb:=ubVF6r:EPJxH#%GJtP~9~JZ1)0q1PWO'xi4)S~t-$}qo8JcVsmt?:P$1JI'6%e0;?T(EmiUs6?5CZ9(T4:s_CZBB*vJz^qM#x[CRB(ukBsenY#0,:L4fTP-L:c0+/Akne_ey'54%&c1]WT0DCO?]27q90e=6vMNVt$^'LVo.}{+$TlBQ.iUfMgb~JV,:>NOSxn#.%qjW^SdUGZA)]Y$hR>FHkS/>C-qGJmj7CvI?G8I<d8-q9%&(-OkttU(k5*)e-'+sl>KUESARJY1h[M8#:;``V6.$Mby~?x*60(HjufHqd.oGBudf2P;cSQ'yGe,:MqtbQ)g*$%$SL:BK{AI<0#9|JvTz2ZhH,~JGqq}<(N6b?=I[Di2-z,1L#xw|q>O43dFf?DZC9&;FfJFr>xEb:/k#2JOO)p>/F`m-g.gaE0%WHjDO#T>~6Lw,y*jBDL5Un;k#CZM/)Cp7)N3X=QFvQP7<p-/O*Wj&*B''3OsRX15yReJRbI%$+r3+7aDMn7'8Fi9s~Ft.HQ7DL[>;qq9Gl=QYh[w?6)xs#<(%hrLDvF.Y$46/Un-a+]mT]?'M2g-&GdV3c]=;0RZZaaGDuX>%.ug:'^=yQ8b%SuL,/uJ40(wqB<Q)DdKG*B>VWc2_Q(zu|7-D:7rIxz9PcTGc+k`_J76BI/Mj%d>XKc;WV;|((:~2M2MM/o>s8`<Yp4,#0Nd|Q~H8eCuM'UODUY0'aL<&7}MPpI)5<>'Soey{k}TA)HxPOs6Z4GMNviZPIc*:B$:b/lSI/~CWAeKWHWOx6N.nAkFrKxQfi^avT=,p2pJ$:v=xmv8:Jpm.u7ExFU(0LnC562'5$^Z<[n&x(epMp+:*Ed7.x:S[B3%<BE:DKo_'eQ*TUEdG%[RJOarKv*-8Q+N}'-[#8c(P1G}SJQF{_w<XX1nSC*E3F()Vk[YAjeK$[tKz'|Em8*3RemqC>7&`$+6yA1HkGj7c55lv*?BSTf*cJPA?,cI*r5NEnTDS61D,ZlB)+kSPe9nD<?F9rB?H|N2LNq/l/},62X>Y},{WnB1wKC&{6CZeus<xVQs_klkk2.AJ)G6<lq+6w.i5H^oJ5'm|F.`sU7;(6+L_bhss={Ge|vao`^2(([+[&~fn,;2vat.i4A-9/iJv}Xl~'#|k}/zcK~SNX;sNbp?&???g<D>]hnNX*r,qWYeh,it'dX'ALpM['B{|[v^<0w<XDeZ|&YI]r0nR2[*j&b^#.(qqc&O[B4o}^yIY(4bP&w%G^n-^rBIol~oSF;ABQ*6r,,.[%|uL[Q/p:dtWFa*X;:6pMzxVLgSEQh6ZiLm$e/H'v0Nm8qBP'hj:O,sU_+GfBXBadk:N,Uv#&<&5mT(=)F-p,-jsOi|coM]Z1aJz2SM?DG4o*VC/6J<d+?0*Ijng%{V7%[24*IePtN8lG*%i7JAkPEcYv55p6kJX)ZWqOd=;+80#,H']ZXRr0PCTp:13$=VAYeVrma%K{vFJ#yUJ3F($Jm,}gX&poWFxx6Z#S,nIHKp.<5G8(lV~`R'LEylB`E_ujs7nZnoLK-3u8Fq?h-s$vh+iqv=VY2/z,]R&*nBjlKB1L($L3r5nI]cDRq+RhOM1f1pAG;1b?xrR0-[bb6J&=hZ7{-+MIR6[c3WpaY:9Jf5a05C`Jc+e=|}ay,))o$'UZlBnGAHFU|xBM*:;}%p+,k.x1<8_D9~/}M8#$LOL|%',Kbp#wc80?b2S&w.2%qD%KUgy?q:4NVQwu#T;1*uk;6(3W&8U>}HhZnL|z?uN0:~n2F:X1cHzq-%f'l)o94/G8EYxvyRbt=(gCl<7R2^h5j^sNBL<+ObB[6w_/W&|&m5k./3:IB~=}NBB5BcM<']Sp})R*Hs`~AAX<5qyV-9U4HNC7R:CQ?_J0.fjJ`%1*'BuDEX9DYQQBy2x>{)^x41pl?x>x5{l6BBR_bj<FG-TEBU?)d/S>~3kaI5#):''4<;N$yyW?jFvao`N_S=W%DVSJa=CCJH;^t+yip9aM2S')rTtOHdehP7cLp3N[<<QhVlQK%:D,|LvBWSK7fa{X}(U.h<<5]7_b~:m<MagIk#6R^;$R$]}*04+6=SJ-w124/190yvY+KH*.6SVg/1l+<9nuxsBBtLAVLh6c[(8&j~yB&.'pb1+g+yLpWWE(Mwme:ri0_;_O7[6U&;DD&:MCM[*J7Q]d?XoO#?'8JE*cPSnyT,)e+-C]oPi5o/'%N^dMkN4]T}$v%0g17/fNP3wJ35f{dti)(&F5XYY(hb'8-Q0[y='(5{L6ss|U_V=BT,C6Ww>E#;/CjyDF,qV_]69;vm1-Jb_(g+[}G$A>oA~w;)Kt6PmKoef=k*1-D$*Lpe/fPN]Ig:oMxy`T}CDIL&U;`WOC0hrWM=4+f)mo?ZiJY/~,XJ'6N>:B8'YbEcd**o0LW14RtvXGC06CHQaK(3M,pCZ]J?cbOK&=SViti-,),2r18]T`K1(]imb>p'~L;u*Z<j$~2-joI3b.;3QHaNsid)s(>#v{*c'/}x*1iXTSji+NELhqsz7~2jSP6_=NZDuo4)$fRY[S'q(Gr^^i|^y]b3qJSH_pd*O&C^fek[71f,IB6:cIC<l#1j:n`gI4*5l{rmBpI|WRWl+N2-cfGI}_M/S7Po5H[J=>)-#Eq'}*wJv*2}g'Ukrv`'nD%F'+o%jVd{cC4iP5XG48;LtDexz(49BRJe>Q,*]U77*gqP4*S=R&Zgmv5Vp6qC0N^1`I*#gSD9D*v'#.+Rt|{ShBhneAcpnPa]'`m&y4Tk#Gn8}MRas`b~$|'?(Atz[BnZ[Kk*1]C{eSUJkBlvR~2oSL_r2:6e}OMRO1S2QnZu*$*_7Ur^NVhKVx9db>^>rS00Mxo~^)S>}4d(Ku]jj;w[X~uc.]OJw}4D:):;.6V<cvl$suK7l]zTpsN=..OS3}*5~Rl+i8%):l]H*DBtAw5B;Jp.BXJ_M;/Q)=U=frR-:^g=1q&;:Bd9#4{Fs$M#z#7Q5275b&'O%K_}:+WjDmuAUIOIjOX[N:?Jff1#6ZuAK1b5E#jxkHc?rq<c<Ty?<1Iy0(B'e#ydZ0O(+-?IN]4r$/z7P*+aHsq^%|w7K8FAJc#9Q1$*qcC+X{ABcRU[P3JKOOw_Q'EYug0:+a-qM5'X$O(^f|Z}LvC5EXlPd|o]^O7W]R3#4[C-H2/:w)#t&7;X>3T;:'8Q#ichw70NE3;{%U.])W&B8{EDVrW|t6EyJx3h1lWFi$8KysB|>;Q,<x-8XGW$Z2KmWUg?E'np$Z-xQ'I/w88W=SprhBR$BgAuVn|1J<:Qk`$3A8ov_nJ(p(G<wzddN$JWO+g&d/8/b:dR};h2${85URwl'u:Y>;j#2OMp~x1:G4/t#?CfCDjE49'Uypmy^'|vGD-(US+N+p}B})^Om<kw~,</:H)>SZ9m'fB+oBHZj883G{F3CgOUo5_Nc?e1Oe9n(1wC_de6G4FF)0]eRoI`2d36{m?S;}3+-F='L1nz3X=#$gucG?Be52%'ZMjChgwIiT4vrDj)_<n&M1jRt9%ANKnv'y9h70^+7o/8a4m?LwVHmW(J5Jt|QVnyTjL.b>OD)$3OyCqJP^A19AuJRuEfR2.])7O6$AI<{K7.4#7F.+x=_*ibaDI_.BgBa'8Ww?_wBCP+++JhK-%B+6$Kjw<w&0+Gb7npeFCK$#wAVY?pjOZ'WT>l/UnM&C%6[Y%w*+'fLg%.}($(`eyV|.r.f6*7<yS:$NpSS|AVwWd;|O;&JcT8>CfQPfVkWqx$($l'{tOX;P6)F%U#+Wh'S'b<`zDF%#G6y/'0J3{4,6_Jr4-zD5CDa=mF#`j=.31drR1VLhbG;^|uur8y|Mf)g)jJ_[A380M.H$^^INvJ]HpnyXO:s~lyZhv7|KEhwUn}WAs:vyOzj=(h_<+36swkk+'E{U;d$LB}''Lj1c;c>zB7dW2(L3i5}>X9al(+xPL,/:,zoE|o7L#q|yhYm`)R9>ChJj%Q_''Fob)%v='>t*UH_`VEg2#oRojcS$k+>L=25*Al=FH)$:GbFpc%'$z>:IST+*UR1>:E5UgM-3Nu,:;o3G_*9w^vkEVJIMIPL[e;yQXWBU5[C#+QOkw&dp+XrIrag|z5BW[QZ#f-.tQy<0t^l#>tb3$PCGQQ3f1t|SWOV+N|mn>,C*BRSc75^=Fh<IEt5g^P`~4)kODZn5sTbOc;$kA%XsDk+PeKl6K;qiwhuOK8w*,|gm0sbAG?hkkY:L,)GHG_=]#rOQV&%AzY3{ML-EAj^DS2p5f~i1u1xTE0rtEW,sRU.$}hV[127}jC7XgPV}4|&Bt+;t5vgl]L:;=6:g.R)>};qUI-2ZkP2>kl;Sy:#C}7VoVLC.'MmFTM|Nthy,G9N#6+|Gi8YifPl?KYu)lZ$D`xtsRE%t35CV/PZ+*7xN#G.e_29yU>_V3AaP5faZDq.u5%[3bkDy}9gIOK])VVJDZ(A27M)eo^/K]W=>r2#ml$HU<0'U}jz4M{SG$`MP`H)BO&=0Q<^H4qR>v1CoC/C=Tu?N+4z#c^fxE[x|z:YlWjubdpAJ|J~a&)p[A?P}2#{`phQ$<z7P6b?0(;zB7+H29YQ8yrq[EmUH&:n(=eTq}N`)5|jyNP=+l=hI]m7`4IfRG$D*#Z>:07TKS;3bS?&O$d<%Ukaw>%e0fueze+*$*cD6c[GvfEA==|wdeTJ"
end PySem.W.Fast
set_option autoImplicit true
set_option relaxedAutoImplicit true
abbrev q04:=@PySem.wpAny_bind
abbrev q05:=@PySem.wpAny_pure
abbrev q06:=@if_neg
abbrev q07:=@if_pos
abbrev q08:=@decide_eq_false
abbrev q09:=@decide_eq_true
abbrev q0A:=@List.getD_eq_getElem?_getD
abbrev q0B:=@List.mem_cons_self
abbrev q0C:=@List.mem_append_right
abbrev q0D:=@List.mem_append_left
abbrev q0E:=@List.take_add_one
abbrev q0F:=@List.take_of_length_le
abbrev q0G:=@Array.getElem?_toList
abbrev q0H:=@List.mem_of_mem_take
abbrev q0I:=@List.mem_of_mem_drop
abbrev q0J:=@List.length_range
abbrev q0K:=@List.map_congr_left
abbrev q0L:=@Option.getD_some
abbrev q0M:=@List.range_succ
abbrev q0N:=@List.length_zip
abbrev q0O:=@Bool.and_eq_true
abbrev q0P:=@Nat.le_of_lt
abbrev q0Q:=@absurd
abbrev q0R:=@congrArg
abbrev q0S:=@Option.some.inj
abbrev q0T:=@List.drop_eq_getElem_cons
abbrev q0U:=@List.filterMap_cons
abbrev q0V:=@Array.toList_append
abbrev q0W:=@PySem.sizeLine_eq
abbrev q0X:=@PySem.wpAny_mono
abbrev q0Y:=@PySem.wpAny_holding
abbrev q0Z:=@List.length_singleton
abbrev q0a:=@Bool.false_eq_true
abbrev q0b:=@decide_eq_true_eq
abbrev q0c:=@List.replicate_succ
abbrev q0d:=@List.nodup_cons
theorem zzl(h:1=1:=by exact Or.inl rfl):1=1:=h
theorem zz0(h:1=1:=by rfl):1=1:=h
theorem zz1(h:1=1:=by decide):1=1:=h
theorem zz2(h:1=1:=by first | exact .inl rfl | exact .inr rfl | assumption):1=1:=h
theorem zz3(h:1=1:=by decide +kernel):1=1:=h
theorem zz4(h:1=1:=by intro _;rfl):1=1:=h
theorem zz5(h:1=1:=by first | exact uX _ (by decide) (by decide) | rfl):1=1:=h
theorem zz6(h:1=1:=by first | exact Or.inl rfl | exact Or.inr (Or.inl rfl) | exact Or.inr (Or.inr rfl)):1=1:=h
local macro_rules|`(tactic|omega)=>`(tactic|first|lia|omega +splitDisjunctions)
set_option linter.all false
set_option Elab.async false
set_option maxRecDepth 100000
abbrev Lx:=PySem.Value->PySem.Shared->Prop
abbrev Ly:=PySem.W.Frag
abbrev Lz:=List (PySem.Addr×PySem.Obj)
abbrev LA:=List Nat
abbrev LB:=PySem.Shared
abbrev LC:=List PySem.Value
abbrev LD:=List PySem.Addr
abbrev LF:=PySem.Str->Option PySem.Value
abbrev LG:=PySem.FuncData
abbrev LH:=PySem.Program
abbrev LI:=List PySem.Str
abbrev LJ:=PySem.Around
abbrev LK:=PySem.World
abbrev LL:=Option PySem.Addr
abbrev LM:=List PySem.Expr
local macro_rules|`(term|⋯)=>`(by omega)
abbrev Kz:=@List.getElem?_eq_getElem
abbrev KA:=@List.getElem?_eq_some_iff
abbrev KC:=@PySem.Heap.get?_push_of_some
abbrev KD:=@List.length_map
abbrev KF:=@List.mem_singleton
abbrev KG:=@List.getElem?_map
abbrev KH:=@List.mem_of_getElem?
abbrev KI:=@PySem.Heap.get?_update_other
abbrev KJ:=@PySem.Heap.get?_push_size
abbrev KL:=@List.size_toArray
abbrev KM:=@List.getElem_mem
abbrev KN:=@Int.toNat_natCast
abbrev KO:=@PySem.Heap.get?_update_self
abbrev KP:=@List.length_cons
abbrev KQ:=@List.map_append
abbrev KR:=@List.mem_append
abbrev KS:=@List.map_map
abbrev KU:=@List.mem_cons
abbrev KW:=@List.mem_cons_of_mem
abbrev KY:=@List.length_reverse
abbrev KZ:=@Nat.lt_of_lt_of_le
abbrev K0:=@Nat.ne_of_lt
abbrev K1:=@List.getElem?_append_right
abbrev K2:=@List.getElem?_append_left
abbrev K3:=@List.length_append
abbrev K4:=@Nat.le_refl
abbrev K5:=@Nat.zero_le
abbrev K6:=@Bool.false_ne_true
abbrev K7:=@PySem.Heap.lt_size
abbrev K8:=@Option.map_eq_some_iff
abbrev K9:=@List.getElem?_cons_succ
abbrev K_:=@List.map_cons
abbrev K':=@Nat.le_trans
abbrev La:=@Nat.lt_irrefl
abbrev Lb:=@Nat.lt_succ_self
abbrev Lc:=@List.append_nil
abbrev Ld:=@List.append_assoc
abbrev Le:=@List.getElem?_set_self
abbrev Lf:=@List.take_length
abbrev Lg:=@List.length_take
abbrev Lh:=@List.length_drop
abbrev Li:=@List.reverse_append
abbrev Lj:=@List.reverse_reverse
abbrev Lk:=@Nat.lt_of_le_of_lt
abbrev Ll:=@List.length_eq_zero_iff
abbrev Lm:=@List.mem_map
abbrev Ln:=@List.all_eq_true
abbrev Lo:=@Nat.add_le_add_left
abbrev Lp:=@List.getElem_toArray
abbrev Lq:=@List.nil_append
abbrev Lr:=@Int.emod_nonneg
abbrev Ls:=@Int.emod_lt_of_pos
abbrev Lu:=@Int.toNat_of_nonneg
abbrev Lv:=@Nat.min_eq_left
abbrev Lw:=@List.drop_zero
set_option hygiene false
local macro_rules|`(a⁻¹)=>`((.ins C b [("name",.str (tx n)),("cost",.int c),("part_names",.ref l)]))|`(b⁻¹)=>`((model prog w))
local macro_rules|`(↑$f)=>`($f P w K mg base bJ)
local macro_rules|`($a∣$b)=>`(($a).cal l.prog w base X G (λ_ F m k b=>$b))
set_option hygiene true
namespace L2
open PySem PySem.Spec PyProof.Rows
abbrev cL:=Sum Int Str
def oK:cL->Value->Bool
 | .inl k,v=>Value.isInt k v
 | .inr x,v=>Value.isStrOf x v
def Hl(w:LK):cL->Int
 | .inl k=>hashInt k
 | .inr x=>hashStr w x
theorem cG:∀{k:cL} {v:Value},oK k v=true->(∃i t,k=Sum.inl i/\v=Value.int i t)\/(∃x t,k=Sum.inr x/\v=Value.str x t)
 | .inl i,v,h=>by
  obtain⟨t,e⟩:=Value.isInt_shape (k:=i) (v:=v) h;exact .inl ⟨i,t,rfl,e⟩
 | .inr x,v,h=>by
  obtain⟨t,e⟩:=Value.isStrOf_shape (x:=x) (v:=v) h;exact .inr ⟨x,t,rfl,e⟩
theorem yL(i:Int)(t:Tok):oK (.inl i) (.int i t)=true:=by simp[oK,Value.isInt]
theorem zc(x:Str)(t:Tok):oK (.inr x) (.str x t)=true:=by simp[oK,Value.isStrOf]
theorem ER(a b:Int):decide ((Sum.inl a:cL)=Sum.inl b)=(a==b):=by
 by_cases e:a=b
 ·subst e;simp
 ·have h:¬ (Sum.inl a:cL)=Sum.inl b:=λq=>e (Sum.inl.inj q)
  rw[q08 h];exact(beq_eq_false_iff_ne.mpr e).symm
theorem Eo(a b:Str):decide ((Sum.inr a:cL)=Sum.inr b)=decide (a=b):=by
 by_cases e:a=b
 ·subst e;simp
 ·have h:¬ (Sum.inr a:cL)=Sum.inr b:=λq=>e (Sum.inr.inj q)
  rw[q08 h,q08 e]
theorem EE(a:Int)(b:Str):decide ((Sum.inl a:cL)=Sum.inr b)=false:=q08 (λq=>nomatch q)
theorem Ey(a:Str)(b:Int):decide ((Sum.inr a:cL)=Sum.inl b)=false:=q08 (λq=>nomatch q)
def b5(prog:LH)(w:LK):PySem.KeyKind prog w cL where
 is:=oK
 hash:=Hl w
 inj:=λv a b ha hb=>by
  rcases cG ha with⟨i,t,rfl,rfl⟩ | ⟨x,t,rfl,rfl⟩
  ·rcases cG hb with⟨j,u,rfl,e⟩ | ⟨y,u,rfl,e⟩
   ·injection e with e1 _;rw[e1]
   ·exact nomatch e
  ·rcases cG hb with⟨j,u,rfl,e⟩ | ⟨y,u,rfl,e⟩
   ·exact nomatch e
   ·injection e with e1 _;rw[e1]
 byValue:=λk v h=>by
  rcases cG h with⟨i,t,rfl,rfl⟩ | ⟨x,t,rfl,rfl⟩<;>rfl
 pyHash:=λhv h=>by
  rcases cG hv with⟨i,t,rfl,rfl⟩ | ⟨x,t,rfl,rfl⟩
  ·exact wpAny_pyHash_int h
  ·exact wpAny_pyHash_str h
 eqBool:=λhu hv h=>by
  rcases cG hu with⟨i,t,rfl,rfl⟩ | ⟨x,t,rfl,rfl⟩
  ·rcases cG hv with⟨j,u,rfl,rfl⟩ | ⟨y,u,rfl,rfl⟩
   ·rw[ER]at h;exact wpAny_eqBool_int h
   ·rw[EE]at h;exact SeqAt.EqAt.int_str i t y u _ _ _ _ h
  ·rcases cG hv with⟨j,u,rfl,rfl⟩ | ⟨y,u,rfl,rfl⟩
   ·rw[Ey]at h;exact SeqAt.EqAt.str_int x t j u _ _ _ _ h
   ·rw[Eo]at h;exact wpAny_eqBool_str h
 «strs»:=λk x t v h=>by
  rcases cG h with⟨i,u,rfl,e⟩ | ⟨y,u,rfl,e⟩
  ·exact nomatch e
  ·injection e with e1 _
   subst e1;cases v<;>rfl
theorem t_(prog:LH)(w:LK)(i:Int)(t:Tok):(b5 prog w).is (.inl i) (.int i t)=true:=yL i t
theorem ut(prog:LH)(w:LK)(x:Str)(t:Tok):(b5 prog w).is (.inr x) (.str x t)=true:=zc x t
inductive V where
 |non | bl (b:Bool) | int (i:Int) | str (x:Str) | byt (b:Array UInt8) | flt (b:UInt64) | ref (a:Addr) | ty (n:String)
 deriving DecidableEq
def bH:V->Value->Prop
 | .non,u=>u=Value.none
 | .bl b,u=>u=Value.bool b
 | .int i,u=>∃t,u=Value.int i t
 | .str x,u=>∃t,u=Value.str x t
 | .byt b,u=>∃t,u=Value.bytes b t
 | .flt b,u=>∃t,u=Value.float b t
 | .ref a,u=>u=Value.ref a
 | .ty n,u=>u=Value.type n
abbrev bx:List V->List Value->Prop:=Paired bH
theorem bx.length(r:bx xs us):xs.length=us.length:=Paired.length r
theorem bx.get:∀{xs:List V} {us:LC} {i:Nat} {x:V},bx xs us->xs[i]?=some x->∃u,us[i]?=some u/\bH x u
 |_,_,_,_,.nil,e=>by simp at e
 |_,_,0,_,.cons r _,e=>by simp at e;subst e;exact⟨_,rfl,r⟩
 |_,_,i+1,x,.cons _ t,e=>by
  obtain⟨u,h1,h2⟩:=bx.get (i:=i) (x:=x) t (by simpa using e);exact⟨u,by simpa using h1,h2⟩
theorem bx.set(r:bH x u):∀{xs:List V} {us:LC} (i:Nat),bx xs us->bx (xs.set i x) (us.set i u)
 |_,_,_,.nil=>.nil
 |_,_,0,.cons _ t=>.cons r t
 |_,_,i+1,.cons q t=>.cons q (bx.set r i t)
theorem bx.append:∀{xs ys:List V} {us ws:LC},bx xs us->bx ys ws->bx (xs++ys) (us++ws)
 |_,_,_,_,.nil,s=>s
 |_,_,_,_,.cons r t,s=>.cons r (bx.append t s)
theorem bx.take:∀{xs:List V} {us:LC} (n:Nat),bx xs us->bx (xs.take n) (us.take n)
 |_,_,0,_=>.nil
 |_,_,_+1,.nil=>.nil
 |_,_,n+1,.cons r t=>.cons r (bx.take n t)
theorem bx.drop:∀{xs:List V} {us:LC} (n:Nat),bx xs us->bx (xs.drop n) (us.drop n)
 |_,_,0,r=>r
 |_,_,_+1,.nil=>.nil
 |_,_,n+1,.cons _ t=>bx.drop n t
def iD:Option V->Option Value->Prop
 |some v,some u=>bH v u
 |none,none=>True
 |_,_=>False
def KV{κ:Type}:List (κ×V)->List (κ×Value)->Prop:=Paired fun(p:κ×V) (q:κ×Value)=>p.1=q.1/\bH p.2 q.2
def kV:cL->V
 | .inl i=>.int i
 | .inr x=>.str x
inductive HO where
  |lst (xs:List V)
  |tup (xs:List V)
  |dK (kvs:List (cL×V)) | dT (kvs:List (List cL×V))
  |set(S:Int->Bool) (n:Nat)
  |ins (C dx:Addr) (fs:List (Str×V))
  |own (x:Addr)
  |xd (fs:List (Str×V))
  |met (f x:Addr)
  |rng (lo hi:Int)
  |frz (o:Obj) (u:HO)
  |tbl (ps:Array Value)
  |ext (φ:Heap->Prop)
abbrev Hp:=Addr->Option HO
def aE(H:Hp)(a:Addr)(o:HO):Hp:=λb=>if b=a then some o else H b
theorem af:aE H a o a=some o:=by unfold aE;rw[q07 rfl]
theorem av{a b:Addr}(h:b≠a):aE H a o b=H b:=by unfold aE;rw[q06 h]
theorem kg:aE (aE H a o) a u=aE H a u:=by
 funext b;unfold aE;split<;>rfl
theorem oV{H:Hp}{o u:HO}(h:H a=some o)(h':H b=some u)(d:o≠u):a≠b:=by
 intro e;subst e;rw[h]at h';exact d (q0S h')
theorem aK{H:Hp}{o:HO}(h:H a=some o)(h':H b=none):a≠b:=by
 intro e;subst e;rw[h]at h';cases h'
section
variable (P:LH)(w:LK)
def b8(H:Hp)(h:Heap)(a:Addr):HO->Prop
 | .lst xs=>xs.length<=sizeLine/\∃(its:LC) (n:Nat),bx xs its/\h.get? a=some {cls:=.type "list",data:=.seq its.toArray n}
 | .tup xs=>xs.length<=sizeLine/\∃its:List Value,bx xs its/\IsTup h a its.toArray
 | .dK kvs=>kvs.length<=sizeLine/\(a==sysModules)=false/\∃vs,KV kvs vs/\h.DictOf (b5 P w) a vs
 | .dT kvs=>kvs.length<=sizeLine/\(a==sysModules)=false/\∃xs:List (List cL×Addr×Value),
   Paired (fun(p:List cL×V) (q:List cL×Addr×Value)=>p.1=q.1/\H q.2.1=some (.tup (p.1.map kV))/\bH p.2 q.2.2) kvs xs /\
   ∃o es ep,h.get? a=some o/\o.ExactDict/\o.data=.dict es ep/\es.toList=xs.map (entryOfKey (tupleKind (b5 P w)))/\(xs.map (·.1)).Nodup
 | .set S n=>h.SetOf (intKind P w) a S n
 | .ins C dx fs=>H dx=some (.own a)/\fs.length<=1000/\dx≠a/\h.get? a=some (PySem.W.instObj C dx) /\
   ∃mA,h.Ns1 dx mA/\(∀f,iD (fs.lookup f) (mA f))/\PySem.Within mA (fs.map (·.1))
 | .own _=>∃o,h.get? a=some o
 | .xd fs=>∃mA,h.Ns1 a mA/\∀f,iD (fs.lookup f) (mA f)
 | .rng lo hi=>∃t u v,h.get? a=some {cls:=.type "range",data:=.fields #[.int lo t,.int hi u,.int 1 v]}
 | .frz o u=>h.get? a=some o/\b8 H h a u
 | .tbl ps=>h.get? a=some {cls:=.none,data:=.fields ps}
 | .met f x=>h.get? a=some (PySem.W.methodObj (.ref f) (.ref x))
 | .ext φ=>φ h/\(∃o,h.get? a=some o)/\∀h1 h2:Heap,φ h1->(∀o,h1.get? a=some o->h2.get? a=some o)->φ h2
def i4(H:Hp)(h:Heap):Prop:=∀a o,H a=some o->b8 P w H h a o
end
section
variable {P:LH}{w:LK}{H H':Hp}{h h':Heap}{a:Addr}{o:HO}
theorem b8.lt(x:b8 P w H h a o):a<h.objs.size:=by
 cases o with
 |lst xs=>obtain⟨_,_,_,_,e⟩:=x;exact K7 e
 |tup xs=>obtain⟨_,_,_,p⟩:=x;exact p.lt
 |dK kvs=>obtain⟨_,_,_,_,o,_,_,e,_⟩:=x;exact K7 e
 |dT kvs=>obtain⟨_,_,_,_,o,_,_,e,_⟩:=x;exact K7 e
 |set S n=>obtain⟨o,_,_,_,e,_⟩:=x;exact K7 e
 |ins C dx fs=>obtain⟨_,_,_,e,_⟩:=x;exact K7 e
 |own y=>obtain⟨_,e⟩:=x;exact K7 e
 |xd fs=>obtain⟨_,⟨_,_,_,e,_⟩,_⟩:=x;exact K7 e
 |rng lo hi=>obtain⟨_,_,_,e⟩:=x;exact K7 e
 |frz ob u=>obtain⟨e,_⟩:=x;exact K7 e
 |tbl ps=>exact K7 (show h.get? a=some _ from x)
 |met f y=>exact K7 (show h.get? a=some _ from x)
 |ext φ=>obtain⟨_,⟨_,e⟩,_⟩:=x;exact K7 e
theorem Paired.mapP{α β:Type}{F G:α->β->Prop}:∀{l₁:List α} {l₂:List β},Paired F l₁ l₂->(∀a b,F a b->G a b)->Paired G l₁ l₂
 |_,_,.nil,_=>.nil
 |_,_,.cons r t,f=>.cons (f _ _ r) (Paired.mapP t f)
theorem b8.stay(x:b8 P w H h a o)(k:∀b u,(b=a\/H b=some (.own a))->h.get? b=some u->h'.get? b=some u)
  (ho:∀b,H b=some (.own a)->H' b=some (.own a)) (ht:∀b xs,H b=some (.tup xs)->H' b=some (.tup xs)):b8 P w H' h' a o:=by
 induction o with
 |lst xs=>obtain⟨z,l,n,r,e⟩:=x;exact⟨z,l,n,r,k _ _ (.inl rfl) e⟩
 |tup xs=>obtain⟨z,l,r,g,e,c⟩:=x;exact⟨z,l,r,g,k _ _ (.inl rfl) e,c⟩
 |dK kvs=>obtain⟨z,y,vs,r,g,i,j,e,c⟩:=x;exact⟨z,y,vs,r,g,i,j,k _ _ (.inl rfl) e,c⟩
 |dT kvs=>
  obtain⟨z,y,xs,r,g,i,j,e,c⟩:=x;exact⟨z,y,xs,Paired.mapP r λp q z=>⟨z.1,ht _ _ z.2.1,z.2.2⟩,g,i,j,k _ _ (.inl rfl) e,c⟩
 |set S n=>obtain⟨g,i,j,t,e,c⟩:=x;exact⟨g,i,j,t,k _ _ (.inl rfl) e,c⟩
 |ins C dx fs=>
  obtain⟨d,z,G,e,B,⟨m,i,j,I,c⟩,r⟩:=x;exact⟨ho _ d,z,G,k _ _ (.inl rfl) e,B,⟨m,i,j,k _ _ (.inr d) I,c⟩,r⟩
 |own y=>obtain⟨g,e⟩:=x;exact⟨g,k _ _ (.inl rfl) e⟩
 |xd fs=>obtain⟨B,⟨m,i,j,e,c⟩,r⟩:=x;exact⟨B,⟨m,i,j,k _ _ (.inl rfl) e,c⟩,r⟩
 |rng lo hi=>obtain⟨t,u,v,e⟩:=x;exact⟨t,u,v,k _ _ (.inl rfl) e⟩
 |frz g u ih=>obtain⟨e,q⟩:=x;exact⟨k _ _ (.inl rfl) e,ih q⟩
 |tbl ps=>
  have e:h.get? a=some {cls:=.none,data:=.fields ps}:=x;show h'.get? a=some {cls:=.none,data:=.fields ps};exact k a _ (.inl rfl) e
 |met f y=>
  have e:h.get? a=some (PySem.W.methodObj (.ref f) (.ref y)):=x;show h'.get? a=some (PySem.W.methodObj (.ref f) (.ref y));exact k a _ (.inl rfl) e
 |ext φ=>obtain⟨p,⟨o,e⟩,D⟩:=x;exact⟨D _ _ p λo q=>k _ _ (.inl rfl) q,⟨o,k _ _ (.inl rfl) e⟩,D⟩
theorem i4.lt(x:i4 P w H h)(e:H a=some o):a<h.objs.size:=(x a o e).lt
theorem i4.fresh(x:i4 P w H h)(e:h.objs.size<=a):H a=none:=by
 cases q:H a with
 |none=>rfl
 |some u=>exact q0Q (KZ (x.lt q) e) (La _)
theorem i4.kept(x:i4 P w H h)(k:∀b u,h.get? b=some u->h'.get? b=some u):i4 P w H h':=λa o e=>
 (x a o e).stay (λb u _ q=>k b u q) (λ_ q=>q) λ_ _ q=>q
theorem i4.laid(x:i4 P w H h)(k:∀b u,h.get? b=some u->h'.get? b=some u)(hp:h.objs.size<=a)(new:b8 P w (aE H a o) h' a o):i4 P w (aE H a o) h':=λb u e=>by
 have hn:=x.fresh hp
 by_cases hb:b=a
 ·subst hb;rw[af]at e;cases e;exact new
 ·rw[av hb]at e
  exact(x b u e).stay (λc v _ q=>k c v q) (λc q=>by rw[av (aK q hn)];exact q) λc xs q=>by rw[av (aK q hn)];exact q
end
def Rd(H:Hp)(a:Addr)(u:HO):Prop:=H a=some u\/∃o,H a=some (.frz o u)
theorem Rd.ok(r:Rd H a u)(x:i4 P w H h):b8 P w H h a u:=by
 rcases r with r | ⟨o,r⟩
 ·exact x a u r
 ·obtain⟨_,q⟩:=x a _ r
  exact q
def F1:Option HO->Prop
 |some (.lst _)=>True
 |some (.dK _)=>True
 |some (.dT _)=>True
 |some (.set _ _)=>True
 |some (.ins _ _ _)=>True
 |some (.ext _)=>True
 |_=>False
section
variable {P:LH}{w:LK}{H:Hp}{h h':Heap}{x e:Addr}{o':HO}
theorem i4.write(ok:i4 P w H h)(mu:F1 (H x))(he:e=x\/H e=some (.own x))(k:∀b u,b≠e->h.get? b=some u->h'.get? b=some u)(heo:∃u,h'.get? e=some u)
  (new:b8 P w (aE H x o') h' x o'):i4 P w (aE H x o') h':=λb u q=>by
 have nown:∀c y,H c=some (.own y)->c≠x:=λc y r z=>by subst z;rw[r]at mu;exact mu
 have ntup:∀c xs,H c=some (.tup xs)->c≠x:=λc xs r z=>by subst z;rw[r]at mu;exact mu
 by_cases hb:b=x
 ·subst hb;rw[af]at q;cases q;exact new
 ·rw[av hb]at q
  by_cases hbe:b=e
  ·have q':H b=some (.own x):=by
    rcases he with z | z
    ·exact q0Q (hbe.trans z) hb
    ·rw[hbe];exact z
   rw[q]at q';cases q'
   obtain⟨v,a⟩:=heo;exact⟨v,by rw[hbe];exact a⟩
  ·refine(ok b u q).stay (λc v hc r=>k c v ?_ r) (λc r=>by rw[av (nown c b r)];exact r) λc xs r=>by rw[av (ntup c xs r)];exact r
   rcases hc with rfl | hc
   ·exact hbe
   ·rintro rfl
    rcases he with z | z
    ·exact nown c b hc z
    ·rw[hc]at z;cases z;exact hb rfl
end
structure Un(fs ex:LD)(H H':Hp)(h h':Heap):Prop where
 keep:∀b o,h.get? b=some o->H b=none->b∉fs->b∉ex->h'.get? b=some o
 slot:∀b o,h.get? b=some o->H b=none->b∈fs->b∉ex->∃sl,h'.get? b=some {o with slots:=sl}
 free:∀b o,h.get? b=some o->H b=none->b∉ex->H' b=none
 there:∀b o,h.get? b=some o->b∉ex->∃o',h'.get? b=some o'
 tups:∀b xs,H b=some (.tup xs)->H' b=some (.tup xs)
 frzs:∀b o u,H b=some (.frz o u)->H' b=some (.frz o u)
 tbls:∀b ps,H b=some (.tbl ps)->∃more,H' b=some (.tbl (ps++more))
section
variable {fs fs' ex ex':LD}{H H1 H2:Hp}{h h1 h2 h':Heap}{a x e:Addr}{o:HO}
theorem Un.any(u:Un fs ex H H1 h h1){b:Addr}{ob:Obj}(q:h.get? b=some ob)(n:H b=none)(hx:b∉ex):∃sl,h1.get? b=some {ob with slots:=sl}:=by
 by_cases a:b∈fs
 ·exact u.slot b ob q n a hx
 ·exact⟨ob.slots,u.keep b ob q n a hx⟩
theorem Un.kept(k:∀b u,h.get? b=some u->h'.get? b=some u):Un fs ex H H h h':=
 ⟨λb ob q _ _ _=>k b ob q,λb ob q _ _ _=>⟨ob.slots,k b ob q⟩,λ_ _ _ n _=>n,λb ob q _=>⟨ob,k b ob q⟩,λ_ _ q=>q,λ_ _ _ q=>q,λ_ ps q=>⟨#[],by rw[q];simp⟩⟩
theorem Un.refl:Un fs ex H H h h:=Un.kept λ_ _ q=>q
theorem Un.laid(k:∀b u,h.get? b=some u->h'.get? b=some u)(hp:h.objs.size<=a)(hn:H a=none):Un fs ex H (aE H a o) h h' where
 keep:=λb u q _ _ _=>k b u q
 slot:=λb u q _ _ _=>⟨u.slots,k b u q⟩
 free:=λb u q n _=>by rw[av (K0 (KZ (K7 q) hp))];exact n
 there:=λb u q _=>⟨u,k b u q⟩
 tups:=λb xs q=>by rw[av (aK q hn)];exact q
 frzs:=λb u xs q=>by rw[av (aK q hn)];exact q
 tbls:=λb ps q=>⟨#[],by rw[av (aK q hn),q];simp⟩
theorem Un.write(mu:F1 (H x))(he:e=x\/H e=some (.own x))(k:∀b u,b≠e->h.get? b=some u->h'.get? b=some u)(heo:∃u,h'.get? e=some u):Un fs ex H (aE H x o) h h':=by
 have d:∀b,H b=none->b≠x:=λb n z=>by subst z;rw[n]at mu;exact mu
 have g:∀b,H b=none->b≠e:=λb n z=>by
  subst z;rcases he with r | r
  ·exact d b n r
  ·rw[n]at r;cases r
 have c:∀b u,H b=some u->¬ F1 (some u)->b≠x:=λb u q j z=>by subst z;rw[q]at mu;exact j mu
 refine⟨λb u q n _ _=>k b u (g b n) q,λb u q n _ _=>⟨u.slots,k b u (g b n) q⟩,λb u q n _=>by rw[av (d b n)];exact n,λb u q _=>?_,
  λb i q=>by rw[av (c b _ q λz=>z)];exact q,λb u i q=>by rw[av (c b _ q λz=>z)];exact q,λb ps q=>⟨#[],by rw[av (c b _ q λz=>z),q];simp⟩⟩
 by_cases a:b=e
 ·subst a;exact heo
 ·exact⟨u,k b u a q⟩
end
def GQ(h:Heap)(H:Hp):List Addr:=(List.range h.objs.size).filter λa=>(H a).isSome
def sO(h:Heap)(H:Hp):Heap:=PySem.W.hideAll h (GQ h H)
theorem zP(h:Heap)(H:Hp):(sO h H).objs.size=h.objs.size:=PySem.W.hideAll_size _ _
theorem AI{h:Heap}{H:Hp}{b:Addr}{o:Obj}(e:h.get? b=some o)(n:H b=none):(sO h H).get? b=some o:=
 PySem.W.hideAll_get _ e λhm=>by
  have q:(H b).isSome=true:=(List.mem_filter.mp hm).2;rw[n]at q;simp at q
theorem CZ{b:Addr}{o:Obj}(e:(sO h H).get? b=some o):h.get? b=some o/\H b=none:=by
 have a:h.get? b=some o:=PySem.W.of_hideAll (GQ h H) e;refine⟨a,?_⟩;cases q:H b with
 |none=>rfl
 |some x=>
  have c:b∈GQ h H:=List.mem_filter.mpr ⟨List.mem_range.mpr (K7 a),by simp[q]⟩;have z:(sO h H).get? b=none:=PySem.W.hideAll_none (GQ h H) c;rw[z]at e;cases e
def CT(g h:Heap)(L:Addr):List (Addr×Obj):=(List.range h.objs.size).filterMap λa=>if a=L\/(g.get? a).isSome=true then none else(h.get? a).map λo=>(a,o)
def ci(g h:Heap)(L d:Addr):List (Addr×Obj):=(CT g h L).filter λp=>decide (p.1≠d)
structure Mod(K:Ly)(mg:LF)(base:Heap):Prop where
 kin:K.In base
 glob:base.Ns mainGlobals mg
 blt:∃mb,base.Ns builtinsNs mb/\∀x:Str,x≠"__name__"->mb x=bootBuiltins x
 nolimit:base.NoLimit
structure Cx where
 prog:Program
 w:World
 K:PySem.W.Frag
 mg:Str->Option Value
 base:Heap
 A:Around
 N:List Str
 s₀:Shared
 H₀:Hp
 env:Env
 outer:List Env
 stack:List Env
 ex:List Addr
 fn:Str->Bool
 calm:Bool
 pn:List (Addr×Obj)
 xe:Value->Shared->Prop
def vW(l:List Env):List Addr:=l.filterMap (·.frame)
abbrev Cx.fs(X:Cx):List Addr:=vW X.outer
def GO(sc:Scope)(x:Str):Prop:=sc.names.lookup x=some .local\/sc.names.lookup x=some .cell\/sc.names.lookup x=some .free
def Loc(sc:Scope)(x:Str):Prop:=sc.names.lookup x=some .local\/sc.names.lookup x=some .cell
def Hd(env:Env)(h:Heap)(m:LF)(x:Str)(u:Value):Prop:=
 (env.kindOf x=some .local/\m x=some u)\/((env.kindOf x=some .cell\/env.kindOf x=some .free)/\∃c,env.cells.lookup x=some c/\h.IsCell c (some u))
structure Cx.Ok(X:Cx):Prop where
 mod:Mod X.K X.mg X.base
 kind:X.env.scope.kind=.function
 glob:X.env.globals=mainGlobals
 blt:X.env.builtins=builtinsNs
 above:X.s₀.heap.objs.size<=X.env.locals
 inj:∀x y c,X.env.cells.lookup x=some c->X.env.cells.lookup y=some c->x=y
 has:∀x,(X.env.kindOf x=some .cell\/X.env.kindOf x=some .free)->∃c,X.env.cells.lookup x=some c
 cab:∀x c,X.fn x=true->X.env.cells.lookup x=some c->X.s₀.heap.objs.size<=c
 hd:X.calm=true->X.A.handled=none
 frames:X.A.frames=some X.stack
 stk:X.stack=X.outer\/(X.stack=X.env::X.outer/\X.env.frame=some X.env.locals)
 exf:∀b∈X.ex,b≠X.env.locals/\∀x c,X.env.cells.lookup x=some c->c≠b
 bs:∀b o,X.base.get? b=some o->X.s₀.heap.get? b=some o/\X.H₀ b=none
 bsz:X.base.objs.size<=X.s₀.heap.objs.size
 noex:∀b o,X.base.get? b=some o->b∉X.ex
 exfs:∀b∈X.ex,b∉X.fs
 funs:X.s₀.heap.FunFrames X.base X.outer
 frf:∀b∈X.fs,X.H₀ b=none
structure Inv(X:Cx)(pins:Lz)(σ:List (Option V))(H:Hp)(s:LB):Prop where
 ok:X.Ok
 os:s.os=X.s₀.os
 bare:AllBare s.gens
 base:Un X.fs X.ex X.H₀ H X.s₀.heap s.heap
 loc:∃m,s.heap.Ns X.env.locals m/\∀(i:Nat) (x:Str) (v:V),X.N[i]?=some x->σ[i]?=some (some v)->GO X.env.scope x->∃u,bH v u/\Hd X.env s.heap m x u
 cell:∀x c,X.env.cells.lookup x=some c->∃v,s.heap.IsCell c v
 free:H X.env.locals=none
 freeC:∀x c,X.env.cells.lookup x=some c->H c=none
 pin:∀p∈X.pn++pins,s.heap.get? p.1=some p.2/\H p.1=none/\p.1≠X.env.locals/\p.1∉X.fs/\∀v,p.2.data≠.cell v
 hok:i4 X.prog X.w H s.heap
 len:σ.length=X.N.length
section
variable {X:Cx}{pins:Lz}{σ:List (Option V)}{H H':Hp}{s:LB}{h':Heap}
theorem Cx.Ok.nofr(ok:X.Ok){b:Addr}{o:Obj}(e:X.base.get? b=some o):b∉X.fs:=λhb=>by
 have:=(ok.funs.mem hb).1;rw[e]at this;cases this
theorem Inv.bs(I:Inv X pins σ H s):∀b o,X.base.get? b=some o->s.heap.get? b=some o/\H b=none:=λb o e=>
 ⟨I.base.keep b o (I.ok.bs b o e).1 (I.ok.bs b o e).2 (I.ok.nofr e) (I.ok.noex b o e),I.base.free b o (I.ok.bs b o e).1 (I.ok.bs b o e).2 (I.ok.noex b o e)⟩
theorem Inv.bk(I:Inv X pins σ H s):∀b o,X.base.get? b=some o->s.heap.get? b=some o:=λb o e=>(I.bs b o e).1
theorem Inv.mod(I:Inv X pins σ H s):Mod X.K X.mg X.base:=I.ok.mod
theorem Inv.kIn(I:Inv X pins σ H s):X.K.In s.heap:=I.ok.mod.kin.keeps I.bk
theorem Inv.lt(I:Inv X pins σ H s):X.env.locals<s.heap.objs.size:=let ⟨_,hn,_⟩:=I.loc;hn.lt
theorem Inv.sz(I:Inv X pins σ H s):X.s₀.heap.objs.size<=s.heap.objs.size:=K' I.ok.above (q0P I.lt)
theorem Inv.nofs(I:Inv X pins σ H s){a:Addr}(h:s.heap.objs.size<=a):a∉X.fs:=λhb=>by
 obtain⟨_,o,ho,_⟩:=I.ok.funs.mem hb;exact q0Q (KZ (K7 ho) (K' I.sz h)) (La _)
theorem Inv.cne(I:Inv X pins σ H s):∀x c,X.env.cells.lookup x=some c->c≠X.env.locals:=λx c e z=>by
 obtain⟨v,o,ho,hd⟩:=I.cell x c e;obtain⟨m,⟨o',es,ep,ho',hd',_⟩,_⟩:=I.loc;rw[z,ho']at ho;cases ho;rw[hd']at hd;cases hd
theorem Inv.funs(I:Inv X pins σ H s):s.heap.FunFrames X.base X.outer:=by
 have all:∀(l:List Env),(∀b∈vW l,b∈X.fs)->X.s₀.heap.FunFrames X.base l->s.heap.FunFrames X.base l:=by
  intro l
  induction l with
  |nil=>intro _ _;trivial
  |cons env r ih=>
   intro g k;obtain⟨m,⟨L,o,a,j,i,n⟩,hr⟩:=k;have d:L∈X.fs:=g L (by unfold vW;rw[q0U,a];exact q0B);obtain⟨sl,e⟩:=I.base.slot L o i (I.ok.frf L d) d λz=>I.ok.exfs L z d;exact⟨m,⟨L,_,a,j,e,n⟩,ih (λb c=>g b (by unfold vW;rw[q0U,a];exact KW _ c)) hr⟩
 exact all X.outer (λ_ c=>c) I.ok.funs
theorem Inv.stack(I:Inv X pins σ H s):s.heap.FunFrames X.base X.stack:=by
 rcases I.ok.stk with e | ⟨e,b⟩
 ·rw[e];exact I.funs
 ·rw[e]
  obtain⟨m,a,_⟩:=I.loc;refine .cons (by rw[I.ok.kind];decide) b a ?_ I.funs;exact Heap.get?_none_of_le (K' I.ok.bsz I.ok.above)
theorem Inv.stkSub(I:Inv X pins σ H s):∀b∈vW X.stack,b∈X.env.locals::X.fs:=λb hb=>by
 rcases I.ok.stk with e | ⟨e,hf⟩
 ·rw[e]at hb;exact KW _ hb
 ·rw[e]at hb
  unfold vW at hb;rw[q0U,hf]at hb;exact hb
theorem Inv.stkFree(I:Inv X pins σ H s):∀b∈vW X.stack,H b=none:=λb hb=>by
 rcases KU.mp (I.stkSub b hb) with e | hb
 ·rw[e];exact I.free
 ·obtain⟨_,o,ho,_⟩:=I.ok.funs.mem hb
  exact I.base.free b o ho (I.ok.frf b hb) λz=>I.ok.exfs b z hb
theorem Inv.step{g':Array GenState}{t':Nat}{d':Drawn}{ch:LD}(I:Inv X pins σ H s)
  (hch:∀b∈ch,(b∈X.ex\/X.s₀.heap.objs.size<=b)/\b≠X.env.locals/\(∀x c,X.env.cells.lookup x=some c->c≠b)/\∀p∈X.pn++pins,p.1≠b)
  (keep:∀b o,b≠X.env.locals->b∉X.fs->b∉ch->s.heap.get? b=some o->H b=none->h'.get? b=some o)
  (slot:∀b o,b≠X.env.locals->b∈X.fs->b∉ch->s.heap.get? b=some o->H b=none->∃sl,h'.get? b=some {o with slots:=sl}) (free:∀b o,b∉ch->s.heap.get? b=some o->H b=none->H' b=none)
  (there:∀b o,b∉ch->s.heap.get? b=some o->∃o',h'.get? b=some o')
  (tups:∀b xs,H b=some (.tup xs)->H' b=some (.tup xs)) (frzs:∀b o u,H b=some (.frz o u)->H' b=some (.frz o u)) (tbls:∀b ps,H b=some (.tbl ps)->∃more,H' b=some (.tbl (ps++more)))
  (ns:∀m,s.heap.Ns X.env.locals m->h'.Ns X.env.locals m) (hok:i4 X.prog X.w H' h') (hg:AllBare g') :
  Inv X pins σ H' {s with heap:=h',gens:=g',drawn:=d',toks:=t' }:=by
 have D:∀b o,X.s₀.heap.get? b=some o->b≠X.env.locals:=λb o e=>K0 (KZ (K7 e) I.ok.above);have w:∀b o,X.s₀.heap.get? b=some o->b∉X.ex->b∉ch:=λb o e a B=>by
  rcases(hch b B).1 with z | z
  ·exact a z
  ·exact q0Q (KZ (K7 e) z) (La _)
 have j:∀x c,X.env.cells.lookup x=some c->∀v,s.heap.IsCell c v->h'.IsCell c v:=λx c e v ⟨o,C,L⟩=>by
  have g:c∉ch:=λz=>(hch c z).2.2.1 x c e rfl
  by_cases S:c∈X.fs
  ·obtain⟨sl,q⟩:=slot c o (I.cne x c e) S g C (I.freeC x c e)
   exact⟨_,q,L⟩
  ·exact⟨o,keep c o (I.cne x c e) S g C (I.freeC x c e),L⟩
 refine⟨I.ok,I.os,hg,⟨λb o e n B a=>?_,λb o e n B a=>?_,λb o e n a=>?_,λb o e a=>?_,λb xs e=>tups b xs (I.base.tups b xs e),λb o xs e=>frzs b o xs (I.base.frzs b o xs e),λb ps e=>?_⟩,?_,λx c e=>?_,?_,λx c e=>?_,λp R=>?_,hok,I.len⟩
 ·exact keep b o (D b o e) B (w b o e a) (I.base.keep b o e n B a) (I.base.free b o e n a)
 ·obtain⟨sl,y⟩:=I.base.slot b o e n B a
  obtain⟨J,G⟩:=slot b _ (D b o e) B (w b o e a) y (I.base.free b o e n a);exact⟨J,G⟩
 ·obtain⟨o',y⟩:=I.base.there b o e a
  exact free b o' (w b o e a) y (I.base.free b o e n a)
 ·obtain⟨o',y⟩:=I.base.there b o e a
  exact there b o' (w b o e a) y
 ·obtain⟨m1,y⟩:=I.base.tbls b ps e
  obtain⟨T,G⟩:=tbls b _ y;exact⟨m1++T,by rw[G,Array.append_assoc]⟩
 ·obtain⟨m,U,Y⟩:=I.loc
  refine⟨m,ns m U,λi x v y G Z=>?_⟩;obtain⟨u,r,l⟩:=Y i x v y G Z;refine⟨u,r,?_⟩;rcases l with l | ⟨k,c,e,z⟩
  ·exact .inl l
  ·exact .inr ⟨k,c,e,j x c e _ z⟩
 ·obtain⟨v,z⟩:=I.cell x c e
  exact⟨v,j x c e v z⟩
 ·obtain⟨m,⟨o,_,_,C,_⟩,_⟩:=I.loc
  exact free _ o (λz=>(hch _ z).2.1 rfl) C I.free
 ·obtain⟨v,o,C,L⟩:=I.cell x c e
  exact free c o (λz=>(hch c z).2.2.1 x c e rfl) C (I.freeC x c e)
 ·obtain⟨e,n,O,M,d⟩:=I.pin p R
  have g:p.1∉ch:=λz=>(hch p.1 z).2.2.2 p R rfl;exact⟨keep p.1 p.2 O M g e n,free p.1 p.2 g e n,O,M,d⟩
theorem Inv.un{t':Nat}(I:Inv X pins σ H s)(u:Un X.fs [] H H' s.heap h')(hok:i4 X.prog X.w H' h'):Inv X pins σ H' {s with heap:=h',toks:=t' }:=by
 obtain⟨m,⟨o,es,ep,i,r⟩,_⟩:=id I.loc;obtain⟨sl,l⟩:=u.any i I.free (by simp);exact I.step (g':=s.gens) (d':=s.drawn) (ch:=[]) (λ_ z=>nomatch z) (λb o _ c _ e n=>u.keep b o e n c (by simp)) (λb o _ c _ e n=>u.slot b o e n c (by simp)) (λb o _ e n=>u.free b o e n (by simp)) (λb o _ e=>u.there b o e (by simp)) u.tups u.frzs u.tbls (λm' k=>by
  obtain⟨o',d,g,a,j⟩:=k;rw[i]at a;cases a
  exact⟨_,d,g,l,j⟩) hok I.bare
theorem Inv.call{t':Nat}{d':Drawn}{ch:LD}(I:Inv X pins σ H s)(u:Un (vW X.stack) ch H H' s.heap h')(hok:i4 X.prog X.w H' h')(hg:AllBare g')
  (hch:∀b∈ch,(b∈X.ex\/X.s₀.heap.objs.size<=b)/\b≠X.env.locals/\(∀x c,X.env.cells.lookup x=some c->c≠b)/\∀p∈X.pn++pins,p.1≠b) :
  Inv X pins σ H' {s with heap:=h',gens:=g',drawn:=d',toks:=t' }:=by
 obtain⟨m,⟨o,es,ep,k,r⟩,_⟩:=id I.loc;obtain⟨sl,g⟩:=u.any k I.free λz=>(hch _ z).2.1 rfl;exact I.step (ch:=ch) hch (λb o g v a e n=>u.keep b o e n (λz=>(KU.mp (I.stkSub b z)).elim g v) a) (λb o _ _ a e n=>u.any e n a) (λb o a e n=>u.free b o e n a) (λb o a e=>u.there b o e a) u.tups u.frzs u.tbls (λm' q=>by
  obtain⟨o',i,j,d,l⟩:=q;rw[k]at d;cases d
  exact⟨_,i,j,g,l⟩) hok hg
theorem Inv.turned{t':Nat}{it:Addr}(I:Inv X pins σ H s)(k:∀b o,b≠it->s.heap.get? b=some o->h'.get? b=some o)(hn:H it=none)(hL:it≠X.env.locals)
  (h1:it∈X.ex\/X.s₀.heap.objs.size<=it) (h2:∀x c,X.env.cells.lookup x=some c->c≠it) (h3:∀p∈X.pn++pins,p.1≠it):Inv X pins σ H {s with heap:=h',toks:=t' }:=by
 have d:∀b u,H b=some u->b≠it:=λb u e z=>by rw[z,hn]at e;cases e
 refine I.step (g':=s.gens) (d':=s.drawn) (ch:=[it]) (λb j=>?_) (λb o _ _ a e _=>k b o (λz=>a (by simp[z])) e) (λb o _ _ a e _=>⟨o.slots,k b o (λz=>a (by simp[z])) e⟩) (λ_ _ _ _ n=>n)
  (λb o a e=>⟨o,k b o (λz=>a (by simp[z])) e⟩) (λ_ _ e=>e) (λ_ _ _ e=>e) (λb ps e=>⟨#[],by rw[e];simp⟩) (λm i=>?_) (λb u e=>?_) I.bare
 ·have e:b=it:=by simpa using j
  subst e;exact⟨h1,hL,h2,h3⟩
 ·obtain⟨o,l,w,g,r⟩:=i
  exact⟨o,l,w,k _ o (Ne.symm hL) g,r⟩
 ·refine(I.hok b u e).stay (λc v a q=>k c v ?_ q) (λ_ q=>q) λ_ _ q=>q
  rcases a with z | z
  ·rw[z];exact d b u e
  ·exact d c _ z
theorem Inv.tok(I:Inv X pins σ H s)(t:Nat):Inv X pins σ H {s with toks:=t}:=I.un (h':=s.heap) (t':=t) Un.refl I.hok
theorem Inv.kept{t':Nat}(I:Inv X pins σ H s)(k:∀b u,s.heap.get? b=some u->h'.get? b=some u):Inv X pins σ H {s with heap:=h',toks:=t' }:=I.un (Un.kept k) (I.hok.kept k)
theorem Inv.laid{a:Addr}{t':Nat}(I:Inv X pins σ H s)(k:∀b u,s.heap.get? b=some u->h'.get? b=some u)(hp:s.heap.objs.size<=a)(new:b8 X.prog X.w (aE H a o) h' a o) :
  Inv X pins σ (aE H a o) {s with heap:=h',toks:=t' }:=I.un (Un.laid k hp (I.hok.fresh hp)) (I.hok.laid k hp new)
theorem Inv.write{e:Addr}{t':Nat}(I:Inv X pins σ H s)(mu:F1 (H x))(he:e=x\/H e=some (.own x))(k:∀b u,b≠e->s.heap.get? b=some u->h'.get? b=some u)(heo:∃u,h'.get? e=some u)
  (new:b8 X.prog X.w (aE H x o) h' x o):Inv X pins σ (aE H x o) {s with heap:=h',toks:=t' }:=I.un (Un.write mu he k heo) (I.hok.write mu he k heo new)
theorem Inv.pins_of{pins':Lz}(I:Inv X pins σ H s)(h:∀p∈pins',s.heap.get? p.1=some p.2/\H p.1=none/\p.1≠X.env.locals/\p.1∉X.fs/\∀v,p.2.data≠.cell v):Inv X pins' σ H s:=
 ⟨I.ok,I.os,I.bare,I.base,I.loc,I.cell,I.free,I.freeC,λp hp=>(KR.mp hp).elim (λz=>I.pin p (q0D _ z)) (h p),I.hok,I.len⟩
theorem ve{N:LI}(hN:N.Nodup){i j:Nat}{x:Str}(a:N[i]?=some x)(b:N[j]?=some x):i=j:=by
 obtain⟨h1,d⟩:=KA.mp a;obtain⟨h2,c⟩:=KA.mp b;exact(List.getElem_inj hN).mp (d.trans c.symm)
theorem qW{i:Nat}{x:Str}{Q:Unit->Shared->Prop}(I:Inv X pins σ H s)(hN:X.N.Nodup)(hi:X.N[i]?=some x)(hx:Loc X.env.scope x)(r:bH v u)
  (h:∀s',Inv X pins (σ.set i (some v)) H s'->(∃a,Heap.SameBut a s.heap s'.heap/\(a=X.env.locals\/X.env.cells.lookup x=some a))->Q () s') (hf:autoParam (X.fn x=true\/X.env.scope.names.lookup x=some .local) zz2._auto_1):wpAny M A (storeName X.env x u) Q E s:=by
 obtain⟨m,hn,hl⟩:=id I.loc;have U:(X.env.scope.kind==.class||(X.env.scope.kind==.module&&X.env.locals != X.env.globals))=false:=by rw[I.ok.kind];rfl
 have T:i<σ.length:=by rw[I.len];exact(KA.mp hi).1
 have cne:=I.cne;have l:∀{a:Addr} {O:Heap},(∃o,s.heap.get? a=some o/\H a=none)->Heap.SameBut a s.heap O->i4 X.prog X.w H O:=fun{a O} ha g b ob e=>by
  obtain⟨_,_,C⟩:=ha;refine(I.hok b ob e).stay (λc w' hc q=>(g.2 c ?_).trans q) (λ_ q=>q) λ_ _ q=>q;rintro rfl;rcases hc with rfl | hc
  ·rw[C]at e;cases e
  ·rw[C]at hc;cases hc
 rcases hx with hk | hk
 ·refine wpAny_storeName_local hk hn (λO a1 g=>?_) U
  obtain⟨oL,_,_,a0,_⟩:=id hn;refine h _ ⟨I.ok,I.os,I.bare,⟨λb o e n L hx=>?_,λb o e n L hx=>?_,I.base.free,λb o e hx=>?_,I.base.tups,I.base.frzs,I.base.tbls⟩,⟨_,a1,λj y v' B D e3=>?_⟩,λy c e=>?_,I.free,I.freeC,λp hp=>?_,l ⟨oL,a0,I.free⟩ g,by simpa using I.len⟩ ⟨_,g,.inl rfl⟩
  ·exact(g.2 b (K0 (KZ (K7 e) I.ok.above))).trans (I.base.keep b o e n L hx)
  ·obtain⟨sl,B⟩:=I.base.slot b o e n L hx
   exact⟨sl,(g.2 b (K0 (KZ (K7 e) I.ok.above))).trans B⟩
  ·obtain⟨o',B⟩:=I.base.there b o e hx
   exact⟨o',(g.2 b (K0 (KZ (K7 e) I.ok.above))).trans B⟩
  ·by_cases G:j=i
   ·subst G
    rw[hi]at B;cases B
    rw[Le T]at D;cases D;exact⟨u,r,.inl ⟨hk,by simp⟩⟩
   ·rw[List.getElem?_set_ne (Ne.symm G)]at D
    obtain⟨u',r',q⟩:=hl j y v' B D e3;refine⟨u',r',?_⟩;rcases q with⟨k,e⟩ | ⟨k,c,e,z⟩
    ·refine .inl ⟨k,?_⟩
     have:y≠x:=λe=>G (ve hN B (e▸hi));simp[this,e]
    ·exact .inr ⟨k,c,e,z.sameBut g (cne y c e)⟩
  ·obtain⟨w',z⟩:=I.cell y c e
   exact⟨w',z.sameBut g (cne y c e)⟩
  ·obtain⟨e,n,ne,nf,d⟩:=I.pin p hp
   exact⟨(g.2 p.1 ne).trans e,n,ne,nf,d⟩
 ·have J:X.fn x=true:=by
   rcases hf with z | z
   ·exact z
   ·rw[z]at hk;cases hk
  obtain⟨c,hc⟩:=I.ok.has x (.inl hk);obtain⟨w',z⟩:=I.cell x c hc;refine wpAny_storeName_cell I.ok.kind hk hc z (λO Z g=>?_);obtain⟨oc,S,R⟩:=id z;refine h {s with heap:=O } ⟨I.ok,I.os,I.bare,⟨λb o e n L hx=>?_,λb o e n L hx=>?_,I.base.free,λb o e hx=>?_,I.base.tups,I.base.frzs,I.base.tbls⟩,⟨m,hn.sameBut g (Ne.symm (cne x c hc)),λj y v' B D e3=>?_⟩,λy c' e=>?_,I.free,I.freeC,λp hp=>?_,l ⟨oc,S,I.freeC x c hc⟩ g,by simpa using I.len⟩ ⟨c,g,.inr hc⟩
  ·exact(g.2 b (K0 (KZ (K7 e) (I.ok.cab x c J hc)))).trans (I.base.keep b o e n L hx)
  ·obtain⟨sl,B⟩:=I.base.slot b o e n L hx
   exact⟨sl,(g.2 b (K0 (KZ (K7 e) (I.ok.cab x c J hc)))).trans B⟩
  ·obtain⟨o',B⟩:=I.base.there b o e hx
   exact⟨o',(g.2 b (K0 (KZ (K7 e) (I.ok.cab x c J hc)))).trans B⟩
  ·by_cases G:j=i
   ·subst G
    rw[hi]at B;cases B
    rw[Le T]at D;cases D;exact⟨u,r,.inr ⟨.inl hk,c,hc,Z⟩⟩
   ·rw[List.getElem?_set_ne (Ne.symm G)]at D
    obtain⟨u',r',q⟩:=hl j y v' B D e3;refine⟨u',r',?_⟩;rcases q with q | ⟨k,c',e,z'⟩
    ·exact .inl q
    ·refine .inr ⟨k,c',e,z'.sameBut g ?_⟩
     rintro rfl;exact G (ve hN B (I.ok.inj _ _ _ e hc▸hi))
  ·by_cases Y:c'=c
   ·subst Y;exact⟨_,Z⟩
   ·obtain⟨w2,z2⟩:=I.cell y c' e
    exact⟨w2,z2.sameBut g Y⟩
  ·obtain⟨e,n,ne,nf,d⟩:=I.pin p hp
   refine⟨(g.2 p.1 ?_).trans e,n,ne,nf,d⟩;intro q;rw[q,S]at e;have q':oc=p.2:=q0S e;exact d w' (by rw[<- q'];exact R)
theorem uN{i:Nat}{x:Str}{Q:Unit->Shared->Prop}(I:Inv X pins σ H s)(hN:X.N.Nodup)(hi:X.N[i]?=some x)(hx:Loc X.env.scope x)(r:bH v u)
  (h:∀s',Inv X pins (σ.set i (some v)) H s'->Q () s') (hf:autoParam (X.fn x=true\/X.env.scope.names.lookup x=some .local) zz2._auto_1):wpAny M A (storeName X.env x u) Q E s:=
 qW I hN hi hx r (λs' I' _=>h s' I') hf
theorem Inv.call'{s':LB}{ch:LD}(I:Inv X pins σ H s)(ho:s'.os=s.os)(u:Un (vW X.stack) ch H H' s.heap s'.heap)(hok:i4 X.prog X.w H' s'.heap)(hg:AllBare s'.gens)
  (hch:∀b∈ch,(b∈X.ex\/X.s₀.heap.objs.size<=b)/\b≠X.env.locals/\(∀x c,X.env.cells.lookup x=some c->c≠b)/\∀p∈X.pn++pins,p.1≠b):Inv X pins σ H' s':=by
 obtain⟨h',g',d',t',a⟩:=s';have e:a=s.os:=ho;subst e;exact I.call (g':=g') (t':=t') (d':=d') u hok hg hch
end
abbrev XK:=Value->Option Addr->Hp->Prop
abbrev St:=List (Option V)
abbrev VK:=V->Hp->Prop
abbrev TE:=St->Hp->VK->Prop
abbrev TT:=St->Hp->(Bool->Hp->Prop)->Prop
abbrev TA:=St->Hp->(List V->Hp->Prop)->Prop
structure fF where
 nx:St->Hp->Prop
 rt:VK
 bk:St->Hp->Prop:=λ_ _=>False
 ct:St->Hp->Prop:=λ_ _=>False
abbrev TS:=fF->St->Hp->Prop
inductive EP(X:Cx)(pins:Lz)(σ:St)(Q:VK)(u:Value)(s':LB):Prop|mk (v:V)(H':Hp)(_:Inv X pins σ H' s')(_:bH v u)(_:Q v H')
inductive TP(X:Cx)(pins:Lz)(σ:St)(Q:Bool->Hp->Prop)(b:Bool)(s':LB):Prop|mk (H':Hp)(_:Inv X pins σ H' s')(_:Q b H')
inductive AP(X:Cx)(pins:Lz)(σ:St)(Q:List V->Hp->Prop)(us:LC)(s':LB):Prop|mk (vs:List V)(H':Hp)(_:Inv X pins σ H' s')(_:bx vs us)(_:Q vs H')
inductive SN(X:Cx)(pins:Lz)(D:St->Hp->Prop)(s':LB):Prop|mk(σ':St)(H':Hp)(_:Inv X pins σ' H' s')(_:D σ' H')
inductive SR(X:Cx)(pins:Lz)(D:V->Hp->Prop)(u:Value)(s':LB):Prop|mk(v:V)(σ':St)(H':Hp)(_:Inv X pins σ' H' s')(_:bH v u)(_:D v H')
inductive SH(X:Cx)(pins:Lz)(σ:St)(D:Hp->Prop)(s':LB):Prop|mk(H':Hp)(_:Inv X pins σ H' s')(_:D H')
def SP(X:Cx)(pins:Lz)(D:fF)(f:Flow)(s':LB):Prop:=
 match f with
 | .next=>SN X pins D.nx s'
 | .brk=>SN X pins D.bk s'
 | .cont=>SN X pins D.ct s'
 | .ret u=>SR X pins D.rt u s'
def PE(X:Cx)(e:Expr)(t:TE):Prop:=
 ∀(pins:Lz) (s:LB) (σ:St) (H:Hp) (Q:VK),Inv X pins σ H s->t σ H Q->wpAny (model X.prog X.w) X.A (eval e X.env) (EP X pins σ Q) X.xe s
def PT(X:Cx)(e:Expr)(t:TT):Prop:=
 ∀(pins:Lz) (s:LB) (σ:St) (H:Hp) (Q:Bool->Hp->Prop),Inv X pins σ H s->t σ H Q->wpAny (model X.prog X.w) X.A (isTrue e X.env (eval e X.env)) (TP X pins σ Q) X.xe s
def PW(X:Cx)(e:Expr)(t:TT):Prop:=
 ∀(whole:Sem Value) (pins:Lz) (s:LB) (σ:St) (H:Hp) (Q:Bool->Hp->Prop),Inv X pins σ H s->t σ H Q->wpAny (model X.prog X.w) X.A (isTrue e X.env whole) (TP X pins σ Q) X.xe s
theorem PW.pt{t:TT}(h:PW X e t):PT X e t:=h _
def PA(X:Cx)(es:LM)(t:TA):Prop:=
 ∀(pos:Pos) (pins:Lz) (s:LB) (σ:St) (H:Hp) (Q:List V->Hp->Prop),Inv X pins σ H s->t σ H Q->wpAny (model X.prog X.w) X.A (spliced (backTo pos (starEach es X.env))) (AP X pins σ Q) X.xe s
def PS(X:Cx)(st:Stmt)(t:TS):Prop:=
 ∀(pins:Lz) (s:LB) (σ:St) (H:Hp) (D:fF),Inv X pins σ H s->t D σ H->wpAny (model X.prog X.w) X.A (exec st X.env) (SP X pins D) X.xe s
def xu(X:Cx)(st:List Stmt)(t:TS):Prop:=
 ∀(pins:Lz) (s:LB) (σ:St) (H:Hp) (D:fF),Inv X pins σ H s->t D σ H->wpAny (model X.prog X.w) X.A (execs st X.env) (SP X pins D) X.xe s
theorem cz{α:Type}{t:Sem α}{Q Q':α->Shared->Prop}{s:LB}(h:wpAny M A t Q E s)(hQ:∀a s,Q a s->Q' a s):wpAny M A t Q' E s:=q0X h hQ λ_ _ x=>x
section
variable {X:Cx}
def Ci(i:Nat):TE:=λσ H Q=>∃v,σ[i]?=some (some v)/\Q v H
def tC(v:V):TE:=λ_ H Q=>Q v H
theorem EJ{i:Nat}{x:Str}{pos:Pos}(hN:X.N[i]?=some x)(hv:GO X.env.scope x)(hd:autoParam ((x==("__debug__":Str))=false) zz1._auto_1)(hcd:autoParam ((x==("__classdict__":Str))=false) zz1._auto_1):PE X (.Name x pos) (Ci i):=by
 intro b s σ H Q I h;obtain⟨v,e,h⟩:=h;obtain⟨m,g,k⟩:=I.loc;obtain⟨u,r,l⟩:=k i x v hN e hv;have fin:EP X b σ Q u s:=⟨v,H,I,r,h⟩;rcases l with⟨hk,j⟩ | ⟨hk,c,d,a⟩
 ·exact wpAny_Name (wpAny_loadName_local I.ok.kind hk g j fin) hd
 ·rcases hk with hk | hk
  ·exact wpAny_Name (wpAny_loadName_cell I.ok.kind hk d a fin) hd
  ·exact wpAny_Name (wpAny_loadName_free I.ok.kind hk d a fin hcd) hd
theorem aj{i j pos}:PE X (.Constant (.int i) j pos) (tC (.int i)):=λ_ _ _ H _ I h=>wpAny_Constant_int ⟨.int i,H,I.tok _,⟨_,rfl⟩,h⟩
theorem iA{b j pos}:PE X (.Constant (.bool b) j pos) (tC (.bl b)):=λ_ _ _ H _ I h=>Constant_bool ⟨.bl b,H,I,rfl,h⟩
theorem kM{j pos}:PE X (.Constant .none j pos) (tC .non):=λ_ _ _ H _ I h=>Constant_none ⟨.non,H,I,rfl,h⟩
theorem nV{x j pos}:PE X (.Constant (.str x) j pos) (tC (.str x)):=λ_ _ _ H _ I h=>Calls.Constant_str ⟨.str x,H,I.tok _,⟨_,rfl⟩,h⟩
def Gl(X:Cx)(x:Str):Prop:=X.env.kindOf x=some .globalImplicit
theorem m9{pins:Lz}{σ:St}{u:Value}{pos:Pos}{Q:Lx}(I:Inv X pins σ H s)(hg:Gl X x)(hm:X.mg x=some u)(h:Q u s)
  (hd:autoParam ((x==("__debug__":Str))=false) zz1._auto_1):wpAny (model X.prog X.w) X.A (eval (.Name x pos) X.env) Q E s:=
 Calls.Name_function_global I.ok.kind hg (Calls.loadGlobal_global (by rw[I.ok.glob];exact I.mod.glob.keeps I.bk) hm h) hd
theorem eV{pins:Lz}{σ:St}{u:Value}{pos:Pos}{Q:Lx}(I:Inv X pins σ H s)(hg:Gl X x)(hm:X.mg x=none)(hv:bootBuiltins x=some u)(h:Q u s)
  (hn:autoParam (x≠"__name__") zz1._auto_1) (hd:autoParam ((x==("__debug__":Str))=false) zz1._auto_1):wpAny (model X.prog X.w) X.A (eval (.Name x pos) X.env) Q E s:=by
 obtain⟨mb,h1,h2⟩:=I.mod.blt;exact Calls.Name_function_global I.ok.kind hg (Calls.loadGlobal_builtin (by rw[I.ok.glob];exact I.mod.glob.keeps I.bk) hm (by rw[I.ok.blt];exact h1.keeps I.bk) ((h2 x hn).trans hv) h) hd
theorem du{u:Value}{pos:Pos}(hg:Gl X x)(hm:X.mg x=some u)(r:bH v u)(hd:autoParam ((x==("__debug__":Str))=false) zz1._auto_1):PE X (.Name x pos) (tC v):=
 λ_ _ _ H _ I h=>m9 I hg hm ⟨v,H,I,r,h⟩ hd
theorem jk{u:Value}{pos:Pos}(hg:Gl X x)(hm:X.mg x=none)(hv:bootBuiltins x=some u)(r:bH v u)(hn:autoParam (x≠"__name__") zz1._auto_1)(hd:autoParam ((x==("__debug__":Str))=false) zz1._auto_1):PE X (.Name x pos) (tC v):=
 λ_ _ _ H _ I h=>eV I hg hm hv ⟨v,H,I,r,h⟩ hn hd
variable {a b:Expr}{ta tb:TE}{pos:Pos}
def PC(X:Cx)(op:CmpOp)(a b:Expr)(t:TE):Prop:=
 ∀(pins:Lz) (s:LB) (σ:St) (H:Hp) (Q:VK),Inv X pins σ H s->t σ H Q ->
  wpAny (model X.prog X.w) X.A (eval a X.env) (λv s₁=>wpAny (model X.prog X.w) X.A (eval b X.env) (λu s₂=>wpAny (model X.prog X.w) X.A (compareOp op v u) (EP X pins σ Q) X.xe s₂) X.xe s₁) X.xe s
theorem uX(b:Expr){op:CmpOp}(h:op≠.In)(h2:op≠.NotIn):behindInMarks op b=false:=by
 have c:(op==CmpOp.In)=false:=by cases op<;>first | rfl | exact q0Q rfl h
 have a:(op==CmpOp.NotIn)=false:=by cases op<;>first | rfl | exact q0Q rfl h2
 cases b<;>simp[behindInMarks,c,a]
def tB(t:TE):TT:=λσ H Q=>t σ H λx H1=>∃c,x=.bl c/\Q c H1
theorem Fe{op:CmpOp}{t:TE}(h:PC X op a b t)(h1:autoParam (behindInMarks op b=false) zz5._auto_1):PE X (.Compare a [op] [b] pos) t:=λpins s σ H Q I hw=>wpAny_Compare1 (h pins s σ H Q I hw) h1
theorem rW{op:CmpOp}{t:TE}(h:PC X op a b t)(h1:autoParam (behindInMarks op b=false) zz5._auto_1):PT X (.Compare a [op] [b] pos) (tB t):=by
 intro e s σ H Q I hw;refine wpAny_isTrue_Compare1 (cz (h e s σ H _ I hw) λv s1 h1=>cz h1 λu s2 h2=>cz h2 λc s3 ⟨x,H1,j,g,i⟩=>?_) h1;obtain⟨d,rfl,q⟩:=i;cases g;exact wpAny_truthy_bool ⟨H1,j,q⟩
variable {tA tB':TT}{ci:LM}
def Fi(t u:TT):TT:=λσ H Q=>t σ H λc H1=>if c=true then u σ H1 Q else Q false H1
def HB(t u:TT):TT:=λσ H Q=>t σ H λc H1=>if c=true then Q true H1 else u σ H1 Q
def EB(t:TT):TT:=λσ H Q=>t σ H λc H1=>Q (!c) H1
theorem fu(ha:PT X a tA):PW X (.BoolOp .And [a] pos) tA:=by
 intro wh b s σ H Q I h;refine isTrue_and (cz (ha b s σ H Q I h) λc s1 e=>?_);cases c with
 |true=>exact isTrue_and_nil e
 |false=>exact e
theorem pH(ha:PT X a tA):PW X (.BoolOp .Or [a] pos) tA:=by
 intro wh b s σ H Q I h;refine isTrue_or (cz (ha b s σ H Q I h) λc s1 e=>?_);cases c with
 |false=>exact isTrue_or_nil e
 |true=>exact e
theorem gw(ha:PT X a tA)(hb:PW X (.BoolOp .And (b::ci) pos) tB'):PW X (.BoolOp .And (a::b::ci) pos) (Fi tA tB'):=by
 intro i d s σ H Q I h;refine isTrue_and (cz (ha d s σ H _ I h) λc j ⟨H1,g,e⟩=>?_);cases c with
 |true=>exact hb i d j σ H1 Q g e
 |false=>exact⟨H1,g,e⟩
theorem qR(ha:PT X a tA)(hb:PW X (.BoolOp .Or (b::ci) pos) tB'):PW X (.BoolOp .Or (a::b::ci) pos) (HB tA tB'):=by
 intro i d s σ H Q I h;refine isTrue_or (cz (ha d s σ H _ I h) λc j ⟨H1,g,e⟩=>?_);cases c with
 |true=>exact⟨H1,g,e⟩
 |false=>exact hb i d j σ H1 Q g e
theorem gy(ha:PT X a tA):PT X (.UnaryOp .Not a pos) (EB tA):=by
 intro b s σ H Q I h;exact isTrue_not (cz (ha b s σ H (λc H1=>Q (!c) H1) I h) λ_ _ ⟨H1,g,q⟩=>⟨H1,g,q⟩)
def Ao(ta tb:TE):TE:=λσ H Q=>ta σ H λx H1=>∃c,x=.bl c/\if c=true then tb σ H1 Q else Q (.bl false) H1
def BA(ta:TE):TE:=λσ H Q=>ta σ H λx H1=>∃c,x=.bl c/\Q (.bl (!c)) H1
theorem tD{op}{t:TE}(h:PE X a t):PE X (.BoolOp op [a] pos) t:=λpins s σ H Q I hw=>BoolOp_one (h pins s σ H Q I hw)
theorem nv(ha:PE X a ta)(hb:PE X (.BoolOp .And (b::ci) pos) tb):PE X (.BoolOp .And (a::b::ci) pos) (Ao ta tb):=by
 intro d s σ H Q I h;refine BoolOp_and (cz (ha d s σ H _ I h) λv i ⟨x,H1,g,j,e⟩=>?_);obtain⟨c,rfl,e⟩:=e;cases j;refine wpAny_truthy_bool ?_;cases c with
 |true=>exact hb d i σ H1 Q g e
 |false=>exact⟨.bl false,H1,g,rfl,e⟩
theorem EX(ha:PE X a ta):PE X (.UnaryOp .Not a pos) (BA ta):=by
 intro b s σ H Q I h;refine UnaryOp_ (cz (ha b s σ H _ I h) λv s1 ⟨x,H1,g,e,d⟩=>?_);obtain⟨c,rfl,d⟩:=d;cases e;exact not_of (wpAny_truthy_bool ⟨.bl (!c),H1,g,rfl,d⟩)
def Hb(t:TT)(ta tb:TE):TE:=λσ H Q=>t σ H λc H1=>if c=true then ta σ H1 Q else tb σ H1 Q
theorem B1(hc:PT X c tA)(ha:PE X a ta)(hb:PE X b tb):PE X (.IfExp c a b pos) (Hb tA ta tb):=by
 intro e s σ H Q I h;refine wpAny_IfExp (cz (hc e s σ H _ I h) λd g ⟨H1,j,i⟩=>?_);cases d with
 |true=>exact ha e g σ H1 Q j i
 |false=>exact hb e g σ H1 Q j i
end
def aN(K:Ly)(H:Hp)(a:Addr)(xs:List V):Prop:=
 Rd H a (.lst xs) \/
  ∃(o:Obj) (its:Array Value) (n:Nat),K.lookup a=some o/\o.cls=.type "list"/\o.dict=none/\o.data=.seq its n/\its.size<=sizeLine/\bx xs its.toList
def dO(K:Ly)(H:Hp)(a:Addr)(xs:List V):Prop:=
 Rd H a (.tup xs) \/
  ∃(o:Obj) (its:Array Value) (n:Nat),K.lookup a=some o/\o.cls=.type "tuple"/\o.data=.seq its n/\its.size<=sizeLine/\bx xs its.toList
def Hr:Value->Option V
 | .none=>some .non
 | .bool b=>some (.bl b)
 | .int i _=>some (.int i)
 | .str x _=>some (.str x)
 | .bytes b _=>some (.byt b)
 | .float b _=>some (.flt b)
 | .ref a=>some (.ref a)
 | .type n=>some (.ty n)
 |_=>none
theorem bH.abs(r:bH x u):Hr u=some x:=by
 cases x with
 |non=>cases r;rfl
 |bl _=>cases r;rfl
 |int _=>obtain⟨t,rfl⟩:=r;rfl
 |str _=>obtain⟨t,rfl⟩:=r;rfl
 |byt _=>obtain⟨t,rfl⟩:=r;rfl
 |flt _=>obtain⟨t,rfl⟩:=r;rfl
 |ref _=>cases r;rfl
 |ty _=>cases r;rfl
theorem bH.inj(r:bH x u)(q:bH y u):x=y:=q0S (r.abs.symm.trans q.abs)
theorem bx.inj:∀{xs ys:List V} {us:LC},bx xs us->bx ys us->xs=ys
 |_,_,_,.nil,.nil=>rfl
 |_,_,_,.cons r t,.cons r' t'=>by rw[r.inj r',bx.inj t t']
section
variable {X:Cx}{pins:Lz}{σ:St}{H:Hp}{s:LB}{a:Addr}{xs ys:List V}
theorem aN.of{K:Ly}(h:H a=some (.lst xs)):aN K H a xs:=.inl (.inl h)
theorem dO.of{K:Ly}(h:H a=some (.tup xs)):dO K H a xs:=.inl (.inl h)
theorem Inv.list(I:Inv X pins σ H s)(h:aN X.K H a xs):∃its:List Value,bx xs its/\PlainL s.heap a its.toArray/\xs.length<=sizeLine:=by
 rcases h with h | ⟨o,its,n,c,g,d,b,hz,r⟩
 ·obtain⟨z,its,n,r,e⟩:=h.ok I.hok
  exact⟨its,r,⟨_,n,e,rfl,rfl,rfl⟩,z⟩
 ·refine⟨its.toList,r,⟨o,n,I.kIn a o c,g,d,by simpa using b⟩,?_⟩
  have e:=r.length;simp only[Array.length_toList]at e;omega
theorem Inv.tuple(I:Inv X pins σ H s)(h:dO X.K H a xs):∃its:List Value,bx xs its/\IsTup s.heap a its.toArray/\xs.length<=sizeLine:=by
 rcases h with h | ⟨o,its,n,c,d,b,hz,r⟩
 ·obtain⟨z,its,r,p⟩:=h.ok I.hok
  exact⟨its,r,p,z⟩
 ·refine⟨its.toList,r,⟨o,I.kIn a o c,d,n,by simpa using b⟩,?_⟩
  have e:=r.length;simp only[Array.length_toList]at e;omega
theorem Inv.list_inj(I:Inv X pins σ H s)(h:aN X.K H a xs)(h':aN X.K H a ys):xs=ys:=by
 obtain⟨c,r,⟨o,n,e,_,_,d⟩,_⟩:=I.list h;obtain⟨b,j,⟨o',n',g,_,_,i⟩,_⟩:=I.list h';rw[e]at g;cases g
 rw[d]at i
 injection i with d1 _
 have:c=b:=by simpa using q0R Array.toList d1
 subst this;exact r.inj j
end
abbrev Cx.wish(X:Cx)(E:Lx):Cx:={X with xe:=E}
abbrev Cx.nox(X:Cx):Cx:=X.wish λ_ _=>False
theorem Cx.Ok.wish{X:Cx}(ok:X.Ok)(E:Lx):(X.wish E).Ok:=
 ⟨ok.mod,ok.kind,ok.glob,ok.blt,ok.above,ok.inj,ok.has,ok.cab,ok.hd,ok.frames,ok.stk,ok.exf,ok.bs,ok.bsz,ok.noex,ok.exfs,ok.funs,ok.frf⟩
theorem Cx.Ok.unwish{X:Cx}(ok:(X.wish E).Ok):X.Ok:=
 ⟨ok.mod,ok.kind,ok.glob,ok.blt,ok.above,ok.inj,ok.has,ok.cab,ok.hd,ok.frames,ok.stk,ok.exf,ok.bs,ok.bsz,ok.noex,ok.exfs,ok.funs,ok.frf⟩
section
variable {X:Cx}{pins:Lz}{σ:St}{H:Hp}{s:LB}{E:Lx}
theorem Inv.wish(I:Inv X pins σ H s)(E:Lx):Inv (X.wish E) pins σ H s:=⟨I.ok.wish E,I.os,I.bare,I.base,I.loc,I.cell,I.free,I.freeC,I.pin,I.hok,I.len⟩
theorem Inv.unwish(I:Inv (X.wish E) pins σ H s):Inv X pins σ H s:=⟨I.ok.unwish,I.os,I.bare,I.base,I.loc,I.cell,I.free,I.freeC,I.pin,I.hok,I.len⟩
theorem SP.unwish{f:Flow}(h:SP (X.wish E) pins D f s'):SP X pins D f s':=by
 cases f with
 |next=>obtain⟨σ',a,I,q⟩:=h;exact⟨σ',a,I.unwish,q⟩
 |brk=>obtain⟨σ',a,I,q⟩:=h;exact⟨σ',a,I.unwish,q⟩
 |cont=>obtain⟨σ',a,I,q⟩:=h;exact⟨σ',a,I.unwish,q⟩
 |ret u=>obtain⟨v,σ',a,I,r,q⟩:=h;exact⟨v,σ',a,I.unwish,r,q⟩
theorem xu.nox{st:List Stmt}{t:TS}(h:xu X.nox st t):xu X st t:=λpins s σ H D I hw=>
 q0X (h pins s σ H D (I.wish _) hw) (λ_ _ q=>q.unwish) λ_ _ z=>False.elim z
end
section
variable {X:Cx}{st:Stmt}{ci:List Stmt}{t u:TS}{e:Expr}{te:TE}{pos:Pos}
def BN:TS:=λD σ H=>D.nx σ H
def yx(t u:TS):TS:=λD σ H=>t {D with nx:=u D} σ H
theorem bj:xu X [] BN:=λ_ _ σ H _ I h=>wpAny_execs_nil ⟨σ,H,I,h⟩
theorem ae(h1:PS X st t)(h2:xu X ci u):xu X (st::ci) (yx t u):=by
 intro a s σ H D I h;refine wpAny_execs_cons (cz (h1 a s σ H {D with nx:=u D} I h) λf b q=>?_);cases f with
 |next=>
  obtain⟨σ',d,c,q⟩:=q;exact h2 a b σ' d D c q
 |ret v=>exact q
 |brk=>exact q
 |cont=>exact q
theorem ai(h1:PS X st t):xu X [st] t:=by
 intro a s σ H D I h;refine wpAny_execs_cons (cz (h1 a s σ H D I h) λf s1 q=>?_);cases f with
 |next=>exact wpAny_execs_nil q
 |ret v=>exact q
 |brk=>exact q
 |cont=>exact q
theorem Inv.quiet{pins:Lz}{σ:St}(I:Inv X pins σ H s):interactive X.env=false:=by simp[interactive,I.ok.kind]
def xT(te:TE):TS:=λD σ H=>te σ H λ_ H1=>D.nx σ H1
theorem bg(he:PE X e te)(hs:autoParam (swapsWith e none pos.line X.env=pure false) zz0._auto_1):PS X (.Expr e pos) (xT te):=by
 intro a s σ H D I h;exact wpAny_Expr_any (cz (he a s σ H _ I h) λv s1 ⟨x,H1,c,r1,b⟩=>⟨σ,H1,c,b⟩) I.quiet hs
def EV(te:TE):TS:=λD σ H=>te σ H D.rt
theorem aP(he:PE X e te):PS X (.Return (some e) pos) (EV te):=by
 intro a s σ H D I h;exact wpAny_Return_some (cz (he a s σ H _ I h) λv s1 ⟨x,H1,d,b,c⟩=>⟨x,σ,H1,d,b,c⟩)
def p6(c:TT)(t u:TS):TS:=λD σ H=>c σ H λb H1=>if b=true then t D σ H1 else u D σ H1
theorem bX{tc:TT}(hc:PT X c tc)(ha:xu X a t)(hb:xu X b u):PS X (.If c a b pos) (p6 tc t u):=by
 intro e s σ H D I h;refine wpAny_If (cz (hc e s σ H _ I h) λd g ⟨H1,j,i⟩=>?_);cases d with
 |true=>exact ha e g σ H1 D j i
 |false=>exact hb e g σ H1 D j i
end
abbrev TG:=V->St->Hp->(St->Hp->Prop)->Prop
abbrev Em:=List V->St->Hp->(St->Hp->Prop)->Prop
def PG(X:Cx)(target:Expr)(t:TG):Prop:=
 ∀(pins:Lz) (s:LB) (σ:St) (H:Hp) (v:V) (u:Value) (Q:St->Hp->Prop),Inv X pins σ H s->bH v u->t v σ H Q ->
  wpAny (model X.prog X.w) X.A (assign target X.env u) (λ_ s'=>SN X pins Q s') X.xe s
def FV(X:Cx)(ts:LM)(t:Em):Prop:=
 ∀(pins:Lz) (s:LB) (σ:St) (H:Hp) (vs:List V) (us:LC) (Q:St->Hp->Prop),Inv X pins σ H s->bx vs us->t vs σ H Q ->
  wpAny (model X.prog X.w) X.A (assignInOrder ((assignEach ts X.env).map (·.2)) us) (λ_ s'=>SN X pins Q s') X.xe s
section
variable {X:Cx}{pos:Pos}
def jA(i:Nat):TG:=λv σ H Q=>Q (σ.set i (some v)) H
theorem aw{i:Nat}{x:Str}(hN:X.N.Nodup)(hi:X.N[i]?=some x)(hx:Loc X.env.scope x)(hf:autoParam (X.fn x=true\/X.env.scope.names.lookup x=some .local) zz2._auto_1):PG X (.Name x pos) (jA i):=by
 intro pins s σ H v u Q I r h;exact wpAny_assign_Name (uN I hN hi hx r (λs' a=>⟨_,H,a,h⟩) hf)
theorem q02(i:Nat){x:Str}(hN:X.N.Nodup)(hi:autoParam (X.N[i]?=some x) zz0._auto_1)(hx:autoParam (Loc X.env.scope x) zzl._auto_1)(hf:autoParam (X.fn x=true\/X.env.scope.names.lookup x=some .local) zz2._auto_1):PG X (.Name x pos) (jA i):=aw hN hi hx hf
def C4:Em:=λvs σ H Q=>vs=[]/\Q σ H
def xC(t:TG)(u:Em):Em:=λvs σ H Q=>∃v r,vs=v::r/\t v σ H λσ' H'=>u r σ' H' Q
theorem dD:FV X [] C4:=by
 intro pins s σ H vs us Q I r h;obtain⟨e,h⟩:=h;subst e;cases r;exact assignInOrder_nil ⟨σ,H,I,h⟩
theorem bh{e:Expr}{es:LM}{t:TG}(h1:PG X e t)(h2:FV X es u)
  (hs:autoParam ((assignEach (e::es) X.env).map (·.2)=assign e X.env::(assignEach es X.env).map (·.2)) zz0._auto_1):FV X (e::es) (xC t u):=by
 intro a s σ H vs us Q I r h;obtain⟨v,vr,d,h⟩:=h;subst d;cases r with
 |cons r rr=>
  rw[hs];refine assignInOrder_cons (cz (h1 a s σ H _ _ _ I r h) λ_ b ⟨σ1,H1,g,c⟩=>?_);exact h2 a b σ1 H1 _ _ Q g rr c
def Cq(K:Ly)(n:Nat)(t:Em):TG:=λv σ H Q=>∃a xs,v=.ref a/\dO K H a xs/\xs.length=n/\t xs σ H Q
theorem ip{es:LM}{t:Em}{n:Nat}(hc:X.calm=true)(h:FV X es t)
  (hn:autoParam ((assignEach es X.env).length=n) zz0._auto_1) (hst:autoParam ((assignEach es X.env).findIdx? (·.1)=none) zz0._auto_1):PG X (.Tuple es k pos) (Cq X.K n t):=by
 intro c s σ H v u Q I r d;obtain⟨a,i,w,m,p,d⟩:=d;subst w;cases r;obtain⟨its,g,l,hz⟩:=I.tuple m;refine assign_Tuple_tuple (I.ok.hd hc) l (by simp[hn,<- p,g.length]) hst λq j=>?_;have x:Inv X c σ H {s with heap:=q }:=I.kept (t':=s.toks) λb o e=>j b o (K0 (K7 e)) e;exact h c _ σ H i _ Q x (by simpa using g) d
def zA(te:TE)(g:TG):TS:=λD σ H=>te σ H λx H1=>g x σ H1 D.nx
theorem AS{tg:Expr}{te:TE}(he:PE X e te)(hg:PG X tg g)(hs:autoParam (swapsWithSole [tg] e pos.line X.env=pure false) zz0._auto_1)(hw:autoParam (swappedStores [tg] e X.env=pure none) zz0._auto_1)
  (h1:autoParam ((assignEach [tg] X.env).map (·.2)=[assign tg X.env]) zz0._auto_1):PS X (.Assign [tg] e pos) (zA te g):=by
 intro a s σ H D I h;refine wpAny_Assign_stores (cz (he a s σ H _ I h) λv b ⟨x,H1,i,c,d⟩=>?_) hs hw;rw[h1];exact cz (hg a b σ H1 x v _ i c d) λ_ s2 q=>q
theorem aG{i:Nat}{x:Str}{te:TE}{pos':Pos}(hN:X.N.Nodup)(hi:X.N[i]?=some x)(hx:Loc X.env.scope x)(he:PE X e te)(hs:autoParam (swapsWith e (some (.Name x pos')) pos.line X.env=pure false) zz0._auto_1)(hf:autoParam (X.fn x=true\/X.env.scope.names.lookup x=some .local) zz2._auto_1) :
  PS X (.Assign [.Name x pos'] e pos) (zA te (jA i)):=by
 intro a s σ H D I h;refine wpAny_Assign_Name (cz (he a s σ H _ I h) λv s1 ⟨y,H1,g,b,c⟩=>?_) hs;exact uN g hN hi hx b (λs2 d=>⟨_,H1,d,c⟩) hf
theorem q01(i:Nat){x:Str}{e:Expr}{te:TE}{pos':Pos}(hN:X.N.Nodup)(he:PE X e te)(hi:autoParam (X.N[i]?=some x) zz0._auto_1)(hx:autoParam (Loc X.env.scope x) zzl._auto_1)(hs:autoParam (swapsWith e (some (.Name x pos')) pos.line X.env=pure false) zz0._auto_1)(hf:autoParam (X.fn x=true\/X.env.scope.names.lookup x=some .local) zz2._auto_1):
  PS X (.Assign [.Name x pos'] e pos) (zA te (jA i)):=aG hN hi hx he hs hf
def tL(c:TT)(tb:TS):TS:=λD σ H=>∃W:Nat->St->Hp->Prop,(∃m,W m σ H)/\∀m σ H,W m σ H ->
 c σ H λb H1=>if b=true then ∃N:St->Hp->Prop,(∀σ' H',N σ' H'->∃m',m'<m/\W m' σ' H')/\tb {D with nx:=N,ct:=N,bk:=D.nx} σ H1 else D.nx σ H1
theorem vp{body:List Stmt}{tc:TT}(hp:PassesOwn (model X.prog X.w) X.A X.env X.xe)(hc:PT X c tc)(hb:xu X body tb):PS X (.While c body [] pos) (tL tc tb):=by
 intro a s σ H D I h;obtain⟨W,⟨m0,r⟩,turn⟩:=h;refine wpAny_While (codeAny_whileLoop (λn x=>∃σ' H',Inv X a σ' H' x/\W n σ' H') ?_ m0 ⟨σ,H,I,r⟩);rintro n w ⟨σ1,H1,y,q⟩;refine wpAny_passesOwn hp (cz (hc a w σ1 H1 _ y (turn n σ1 H1 q)) λb u ⟨H2,p,g⟩=>?_);cases b with
 |true=>
  obtain⟨N,o,g⟩:=g;rw[q07 rfl];refine wpAny_passesOwn hp (cz (hb a u σ1 H2 _ p g) λf s3 e=>?_);cases f with
  |next=>
   obtain⟨σ3,d,m,j⟩:=e;obtain⟨k,l,i⟩:=o σ3 d j;exact⟨k,l,σ3,d,m,i⟩
  |cont=>
   obtain⟨σ3,d,m,j⟩:=e;obtain⟨k,l,i⟩:=o σ3 d j;exact⟨k,l,σ3,d,m,i⟩
  |brk=>exact e
  |ret v=>exact e
 |false=>
  rw[q06 K6];exact wpAny_execs_nil ⟨σ1,H2,p,g⟩
end
structure It where
 go:Nat->Hp->Prop
 yld:Nat->Hp->V->Hp->Prop
 stop:Nat->Hp->Prop
def mQ(X:Cx)(pins:Lz)(H:Hp)(b:Addr):Prop:=
 H b=none/\b≠X.env.locals/\b∉X.fs/\(b∈X.ex\/X.s₀.heap.objs.size<=b)/\(∀x c,X.env.cells.lookup x=some c->c≠b)/\∀p∈X.pn++pins,p.1≠b
theorem Inv.fpOk{pins:Lz}{σ:St}{H':Hp}{b:Addr}(I:Inv X pins σ H s)(hb:s.heap.objs.size<=b)(hn:H' b=none):mQ X pins H' b:=by
 refine⟨hn,Nat.ne_of_gt (KZ I.lt hb),I.nofs hb,.inr (K' I.sz hb),λx c e z=>?_,λp a z=>?_⟩
 ·obtain⟨v,q⟩:=I.cell x c e
  exact q0Q (KZ q.lt (by rw[z];exact hb)) (La _)
 ·exact q0Q (KZ (K7 (I.pin p a).1) (by rw[z];exact hb)) (La _)
structure qd(P:LH)(w:LK)(K:Ly)(tg:Expr)(J:It)(fp:LD)(it:Addr)(tn:Nat->Heap->Prop):Prop where
 mem:it∈fp
 obj:∀i h,tn i h->∀b∈fp,∃o,h.get? b=some o/\∀v,o.data≠.cell v
 keep:∀i h h',tn i h->(∀b∈fp,∀o,h.get? b=some o->h'.get? b=some o)->tn i h'
 item:∀(X:Cx),X.prog=P->X.w=w->X.K=K->X.calm=true->∀(i:Nat) (pins:Lz) (s:LB) (σ:St) (H:Hp) (E:Lx),Inv X pins σ H s->(∀b∈fp,mQ X pins H b)->tn i s.heap->J.go i H ->
  wpAny (model P w) X.A (pyNext (.ref it)) (λr s1=>∃u,r=some u /\
   wpAny (model P w) X.A (letOwnedTupleGo tg (.ref it) u) (λ_ s2=>∃x H',Inv X pins σ H' s2/\bH x u/\J.yld i H x H'/\tn (i+1) s2.heap/\∀b∈fp,H' b=none) E s1) E s
 done:∀(X:Cx),X.prog=P->X.w=w->X.K=K->X.calm=true->∀(i:Nat) (pins:Lz) (s:LB) (σ:St) (H:Hp) (E:Lx),Inv X pins σ H s->(∀b∈fp,mQ X pins H b)->tn i s.heap->J.stop i H ->
  wpAny (model P w) X.A (pyNext (.ref it)) (λr s1=>r=none/\Inv X pins σ H s1) E s
 self:∀(A:LJ) (i:Nat) (s:LB) (Q:Lx) (E:Lx),tn i s.heap->Q (.ref it) s->wpAny (model P w) A (pyIter (.ref it)) Q E s
abbrev TI:=St->Hp->(It->Hp->Prop)->Prop
def HH(X:Cx)(pins:Lz)(σ:St)(tg:Expr)(R:It->Hp->Prop)(itv:Value)(s2:LB):Prop:=
 ∃(it:Addr) (fp:LD) (tn:Nat->Heap->Prop) (J:It) (H':Hp),itv=.ref it/\Inv X pins σ H' s2/\qd X.prog X.w X.K tg J fp it tn/\tn 0 s2.heap/\(∀b∈fp,mQ X pins H' b)/\R J H'
def PI(X:Cx)(tg iter:Expr)(wi:TI):Prop:=
 ∀(pins:Lz) (s:LB) (σ:St) (H:Hp) (R:It->Hp->Prop),Inv X pins σ H s->wi σ H R ->
  wpAny (model X.prog X.w) X.A (eval iter X.env) (λv s1=>wpAny (model X.prog X.w) X.A (pyIter v) (HH X pins σ tg R) X.xe s1) X.xe s
theorem qt{s:LB}{tg:Expr}{it:Addr}{u:Value}{o:Obj}{Q:Unit->Shared->Prop}(ho:s.heap.get? it=some o)(hc:o.cls=.type n)(hd:o.data=.fields vs)
  (hn:["enumerate","zip","dict_itemiterator","dict_reverseitemiterator","odict_iterator","itertools.zip_longest","itertools.pairwise"].contains n=false) (hQ:Q () s):wpAny M A (letOwnedTupleGo tg (.ref it) u) Q E s:=by
 unfold letOwnedTupleGo;cases tg<;>first
  |exact q05 hQ
  | (cases u<;>first
    |exact q05 hQ
    | (refine q04 (wpAny_load ho ?_)
       rw[hc,hd];show wpAny M A (if(["enumerate","zip","dict_itemiterator","dict_reverseitemiterator","odict_iterator","itertools.zip_longest","itertools.pairwise"].contains n&&vs[0]?==some (rawInt _))=true then _ else _) Q E s;rw[q06 (by intro h;rw[hn,Bool.false_and]at h;cases h)];exact q05 hQ))
def BT(K:Ly)(a:Addr):It:=
 ⟨λi H=>∃xs x,aN K H a xs/\xs[i]?=some x,λi H x H'=>H'=H/\∀xs,aN K H a xs->xs[i]?=some x,λi H=>∃xs,aN K H a xs/\xs.length<=i⟩
def xV(lo:Int)(n:Nat):It:=⟨λi _=>i<n,λi H x H'=>H'=H/\x=.int (lo+i),λi _=>n<=i⟩
theorem y_{K:Ly}{tg:Expr}(a it:Addr):qd P w K tg (BT K a) [it] it (λi h=>h.IsListIter it a i) where
 mem:=by simp
 obj:=λi h g b l=>by
  have e:b=it:=by simpa using l
  subst e;obtain⟨o,e,c,d⟩:=g;exact⟨o,e,λv z=>by rw[d]at z;cases z⟩
 keep:=λi h q g k=>g.at λo e=>k it (by simp) o e
 item:=by
  intro X D C G S i j s σ H E I hf g hg;subst D C G;obtain⟨T,x,n,B⟩:=hg;obtain⟨y,r,p,Z⟩:=I.list n;obtain⟨u,hu,Y⟩:=r.get B;obtain⟨R,O,f2,M,L,J⟩:=hf it (by simp);refine wpAny_pyNext_list_item g p.isList (x:=u) (by simpa using hu) λq m U=>?_;have I1:Inv X j σ H {s with heap:=q }:=I.turned (t':=s.toks) (λb o l e=>(U.2 b l).trans e) R O M L J;obtain⟨o,e,c,d⟩:=id m;exact⟨u,rfl,qt (s:={s with heap:=q }) e c d (by decide) ⟨x,H,I1,Y,⟨rfl,λys hy=>by rw[I.list_inj hy n];exact B⟩,m,λb l=>(hf b l).1⟩⟩
 done:=by
  intro X D C G S i j s σ H E I hf g hg;subst D C G;obtain⟨T,n,B⟩:=hg;obtain⟨y,r,p,Z⟩:=I.list n;obtain⟨R,O,f2,M,L,J⟩:=hf it (by simp);have hl:=r.length;exact wpAny_pyNext_list_end (I.ok.hd S) g p.isList (by simp;omega) λq eb=>⟨rfl,I.turned (t':=s.toks) (λb o l e=>eb b o l e) R O M L J⟩
 self:=λ_ _ _ _ _ g h=>wpAny_pyIter_listiter g h
theorem vR{K:Ly}{tg:Expr}(it:Addr)(lo:Int)(n:Nat):qd P w K tg (xV lo n) [it] it (λi h=>IsRangeIter h it (lo+(i:Nat)*1) ((n:Int)-(i:Nat)) 1) where
 mem:=by simp
 obj:=λi h a b d=>by
  have e:b=it:=by simpa using d
  subst e;exact⟨_,a,λv z=>by
   have D:Data.fields _=Data.cell v:=z;cases D⟩
 keep:=λi h j a k=>k it (by simp) _ a
 item:=by
  intro X p l q m i c s σ H E I hf a hg;subst p l q;obtain⟨B,y,f2,x,u,r⟩:=hf it (by simp);have W:=Walks.range (prog:=X.prog) (w:=X.w) (I.ok.hd m) it lo 1 n;refine W.item i s _ _ hg a λv j C J g G=>?_;obtain⟨t,rfl⟩:=J;have M:Inv X c σ H {s with heap:=j,toks:=C}:=I.turned (λb o d e=>G b o (by simpa using d) e) B y x u r;refine⟨_,rfl,qt (s:={s with heap:=j,toks:=C}) (n:="range_iterator") g rfl rfl (by decide) ⟨.int (lo+i),H,M,⟨t,?_⟩,⟨rfl,rfl⟩,g,λb d=>(hf b d).1⟩⟩;rw[Int.mul_one]
 done:=by
  intro X p l q m i c s σ H E I hf a hg;subst p l q;obtain⟨B,y,f2,x,u,r⟩:=hf it (by simp);exact wpAny_pyNext_range_end (I.ok.hd m) a (by have:n<=i:=hg;omega) λj L=>⟨rfl,I.turned (t':=s.toks) (λb o d e=>L b o d e) B y x u r⟩
 self:=λ_ _ _ _ _ a h=>wpAny_pyIter_rangeiter a h
section
variable {X:Cx}{tg:Expr}
def By(K:Ly)(tl:TE):TI:=λσ H R=>tl σ H λx H1=>∃a,x=.ref a/\(∃xs,aN K H1 a xs)/\R (BT K a) H1
theorem bG{tl:TE}(hl:PE X l tl):PI X tg l (By X.K tl):=by
 intro c s σ H R I h;refine cz (hl c s σ H _ I h) λv d ⟨x,H1,g,i,j⟩=>?_;obtain⟨a,e,⟨xs,k⟩,q⟩:=j;subst e;cases i;obtain⟨its,rv,p,hz⟩:=g.list k;refine wpAny_pyIter_list p.isList ?_;refine⟨d.heap.objs.size,[d.heap.objs.size],_,_,H1,rfl,g.kept (t':=d.toks) λb o e=>KC _ e,y_ a _,⟨_,KJ _ rfl,rfl,rfl⟩,λb m=>?_,q⟩;have e:b=d.heap.objs.size:=by simpa using m
 subst e;exact g.fpOk (K4 _) (g.hok.fresh (K4 _))
theorem uQ{pins:Lz}{σ:St}{s:LB}{R:It->Hp->Prop}{E:Lx}{lo hi:Int}{t u v:Tok}{tk:Nat}(I:Inv X pins σ H s)(h1:-(2 ^ 62)<=lo)(h2:lo<2 ^ 62)(h3:-(2 ^ 62)<=hi)(h4:hi<2 ^ 62)
  (q:R (xV lo (hi-lo).toNat) H):wpAny (model X.prog X.w) X.A (pyIter (.ref s.heap.objs.size)) (HH X pins σ tg R) E {s with heap:=s.heap.push {cls:=.type "range",data:=.fields #[.int lo t,.int hi u,.int 1 v]},toks:=tk}:=by
 refine wpAny_pyIter_range (IsRange.new ..) (small_one h1 h2 h3 h4) ?_;have a:Inv X pins σ H {s with heap:=s.heap.push {cls:=.type "range",data:=.fields #[.int lo t,.int hi u,.int 1 v]},toks:=tk}:=I.kept λb o e=>KC _ e;refine⟨(s.heap.push {cls:=.type "range",data:=.fields #[.int lo t,.int hi u,.int 1 v]}).objs.size,[(s.heap.push {cls:=.type "range",data:=.fields #[.int lo t,.int hi u,.int 1 v]}).objs.size],_,_,H,rfl,
  a.kept (t':=tk) λb o e=>KC _ e,vR _ lo (hi-lo).toNat,?_,λb c=>?_,q⟩
 ·have g:lo+((0:Nat):Int)*1=lo:=by simp
  have d:(((hi-lo).toNat:Nat):Int)-((0:Nat):Int)=Builtin.Range.rangeSize lo hi 1:=by rw[rangeSize_one];split<;>omega
  show IsRangeIter _ _ (lo+((0:Nat):Int)*1) ((((hi-lo).toNat:Nat):Int)-((0:Nat):Int)) 1;rw[g,d];exact KJ _ rfl
 ·have e:b=(s.heap.push {cls:=.type "range",data:=.fields #[.int lo t,.int hi u,.int 1 v]}).objs.size:=by simpa using c
  subst e;exact a.fpOk (K4 _) (a.hok.fresh (K4 _))
def Al(ta:TA):TI:=λσ H R=>ta σ H λvs H1=>∃j:Int,vs=[.int j]/\-(2 ^ 62)<=j/\j<2 ^ 62/\R (xV 0 j.toNat) H1
def AR(ta:TA):TI:=λσ H R=>ta σ H λvs H1=>∃i j:Int,vs=[.int i,.int j]/\(-(2 ^ 62)<=i/\i<2 ^ 62/\-(2 ^ 62)<=j/\j<2 ^ 62)/\R (xV i (j-i).toNat) H1
theorem bL{a:Expr}{ta:TA}{p pos:Pos}(hg:Gl X "range")(hm:X.mg "range"=none)(ha:PA X [a] ta)(hs:autoParam (starEach [a] X.env=[(false,eval a X.env)]) zz0._auto_1):PI X tg (.Call (.Name "range" p) [a] [] pos) (Al ta):=by
 intro b s σ H R I h;refine Call_ (eV I hg hm boot_range (PyProof.Rows.callWith_type1 (cz (ha pos b s σ H _ I h) λus s1 ⟨vs,H1,i,d,c⟩=>?_) hs rfl));obtain⟨j,e,c,g,q⟩:=c;subst e;cases d with
 |cons r rr=>
  cases rr;obtain⟨t,rfl⟩:=r;exact call_range_1 (uQ i ⋯ ⋯ c g (by simpa using q))
theorem d_{a b:Expr}{ta:TA}{p pos:Pos}(hg:Gl X "range")(hm:X.mg "range"=none)(ha:PA X [a,b] ta)(hs:autoParam (starEach [a,b] X.env=[(false,eval a X.env),(false,eval b X.env)]) zz0._auto_1)(hs2:autoParam (starEach [b] X.env=[(false,eval b X.env)]) zz0._auto_1) :
  PI X tg (.Call (.Name "range" p) [a,b] [] pos) (AR ta):=by
 intro c s σ H R I h;refine Call_ (eV I hg hm boot_range (PyProof.Rows.callWith_type1 (cz (ha pos c s σ H _ I h) λus s1 ⟨vs,H1,n,g,d⟩=>?_) (by rw[hs,hs2]) (by rw[hs2];rfl)));obtain⟨i,j,e,⟨d,m,l,k⟩,q⟩:=d;subst e;cases g with
 |cons r rr=>
  cases rr with
  |cons r' rr=>
   cases rr;obtain⟨t,rfl⟩:=r;obtain⟨t',rfl⟩:=r';exact call_range_2 (uQ n d m l k q)
def Hh(wi:TI)(g:TG)(tb:TS):TS:=λD σ H=>wi σ H λJ H1=>∃W:Nat->Nat->St->Hp->Prop,(∃m,W 0 m σ H1)/\∀i m σ H,W i m σ H ->
 (J.stop i H/\D.nx σ H)\/(J.go i H/\∃N:St->Hp->Prop,(∀σ' H',N σ' H'->∃m',m'<m/\W (i+1) m' σ' H')/\∀x H',J.yld i H x H'->g x σ H' λσ2 H2=>tb {D with nx:=N,ct:=N,bk:=D.nx} σ2 H2)
def oA(fp:LD)(h:Heap):List (Addr×Obj):=fp.filterMap λb=>(h.get? b).map λo=>(b,o)
theorem ig{fp:LD}{h:Heap}{b:Addr}{o:Obj}(hb:b∈fp)(e:h.get? b=some o):(b,o)∈oA fp h:=List.mem_filterMap.mpr ⟨b,hb,by rw[e];rfl⟩
theorem yz{fp:LD}{p:Addr×Obj}(hp:p∈oA fp h):p.1∈fp/\h.get? p.1=some p.2:=by
 obtain⟨b,a,e⟩:=List.mem_filterMap.mp hp;cases q:h.get? b with
 |none=>rw[q]at e;cases e
 |some o=>
  rw[q]at e;have c:(b,o)=p:=q0S e;subst c;exact⟨a,q⟩
theorem Inv.pinned{pins:Lz}{σ:St}{fp:LD}(I:Inv X pins σ H s)(hf:∀b∈fp,mQ X pins H b)(ho:∀b∈fp,∃o,s.heap.get? b=some o/\∀v,o.data≠.cell v):Inv X (pins++oA fp s.heap) σ H s:=
 I.pins_of λp hp=>(KR.mp hp).elim (λz=>I.pin p (q0C _ z)) λz=>by
  obtain⟨hb,e⟩:=yz z;obtain⟨f0,f1,f2,_⟩:=hf p.1 hb;obtain⟨o,e',d⟩:=ho p.1 hb;rw[e]at e';cases e'
  exact⟨e,f0,f1,f2,d⟩
theorem Inv.unpinned{pins pl:Lz}{σ:St}(I:Inv X (pins++pl) σ H s):Inv X pins σ H s:=I.pins_of λp hp=>I.pin p (q0C _ (q0D _ hp))
theorem EQ{iter:Expr}{body:List Stmt}{wi:TI}{pos:Pos}(hp:PassesOwn (model X.prog X.w) X.A X.env X.xe)(hc:X.calm=true)(hi:PI X tg iter wi)(hg:PG X tg g)(hb:xu X body tb)
  (hs:autoParam (∀x,foldedSetIterable iter X.env x=pure x) zz4._auto_1):PS X (.For tg iter body [] pos) (Hh wi g tb):=by
 intro a s σ H D I h;refine wpAny_For (cz (hi a s σ H _ I h) λv s1 h1=>cz h1 λitv s2 h2=>?_) hs;obtain⟨it,C,S,J,H2,e,I2,T,L,f2,W,⟨m0,w0⟩,turn⟩:=h2;subst e
 -- what stays true of the iterator's objects through the loop
 have c:∀{H':Hp},(∀b∈C,H' b=none)->∀b∈C,mQ X a H' b:=λhn b hb=>⟨hn b hb,(f2 b hb).2⟩;refine codeAny_forLoop_any (λn Z=>∃i σ' H',Inv X a σ' H' Z/\S i Z.heap/\(∀b∈C,H' b=none)/\W i n σ' H') ?_ m0 ⟨0,σ,H2,I2,L,λb hb=>(f2 b hb).1,w0⟩;rintro n Y ⟨i,σ3,G,I3,y,B,w3⟩;rcases turn i n σ3 G w3 with⟨w,qn⟩ | ⟨go,N,hN,step⟩
 ·refine wpAny_passesOwn hp (cz (T.done X rfl rfl rfl hc i a Y σ3 G X.xe I3 (c B) y w) λr s4 ⟨hr,I4⟩=>?_)
  subst hr;exact wpAny_execs_nil ⟨σ3,G,I4,qn⟩
 ·refine wpAny_passesOwn hp (cz (T.item X rfl rfl rfl hc i a Y σ3 G X.xe I3 (c B) y go) λr s4 ⟨u,hr,h4⟩=>?_)
  subst hr;refine wpAny_passesOwn hp (cz h4 λ_ U ⟨x,H5,I5,r5,y5,q,O⟩=>?_);have R:=I5.pinned (c O) (T.obj _ _ q);refine wpAny_passesOwn hp (cz (hg _ U σ3 H5 x u _ R r5 (step x H5 y5)) λ_ s6 ⟨σ6,H6,I6,q6⟩=>?_);refine wpAny_passesOwn hp (cz (hb _ s6 σ6 H6 _ I6 q6) λf M p=>?_);have j:∀{σ7:St} {l:Hp},Inv X (a++oA C U.heap) σ7 l M->N σ7 l->∃m,m<n/\∃i σ' H',Inv X a σ' H' M/\S i M.heap/\(∀b∈C,H' b=none)/\W i m σ' H':=fun{σ7 l} k z=>by
   obtain⟨m',hm,w7⟩:=hN σ7 l z;refine⟨m',hm,i+1,σ7,l,k.unpinned,T.keep _ _ _ q λb hb o e=>(k.pin (b,o) (q0C _ (q0C _ (ig hb e)))).1,λb hb=>?_,w7⟩;obtain⟨o,e,d⟩:=T.obj _ _ q b hb;exact(k.pin (b,o) (q0C _ (q0C _ (ig hb e)))).2.1
  cases f with
  |next=>obtain⟨σ7,l,k,z⟩:=p;exact j k z
  |cont=>obtain⟨σ7,l,k,z⟩:=p;exact j k z
  |brk=>obtain⟨σ7,l,k,p⟩:=p;exact⟨σ7,l,k.unpinned,p⟩
  |ret v=>obtain⟨x7,σ7,l,k,r7,p⟩:=p;exact⟨x7,σ7,l,k.unpinned,r7,p⟩
end
theorem B_{K:Ly}{xs:List V}{g:TG}{tb:TS}{D:fF}{σ:St}{H:Hp}(Pv:Nat->St->Hp->Prop)(h0:Pv 0 σ H)(hl:∀i σ H,i<=xs.length->Pv i σ H->aN K H a xs)
  (hs:∀i x σ H,xs[i]?=some x->Pv i σ H->g x σ H λσ2 H2=>tb {D with nx:=Pv (i+1),ct:=Pv (i+1),bk:=D.nx} σ2 H2) (hd:∀σ H,Pv xs.length σ H->D.nx σ H) :
  ∃W:Nat->Nat->St->Hp->Prop,(∃m,W 0 m σ H)/\∀i m σ H,W i m σ H ->
   ((BT K a).stop i H/\D.nx σ H)\/((BT K a).go i H/\∃N:St->Hp->Prop,(∀σ' H',N σ' H'->∃m',m'<m/\W (i+1) m' σ' H')/\∀x H',(BT K a).yld i H x H'->g x σ H' λσ2 H2=>tb {D with nx:=N,ct:=N,bk:=D.nx} σ2 H2):=by
 refine⟨λi m σ H=>m=xs.length-i/\i<=xs.length/\Pv i σ H,⟨xs.length,by simp,K5 _,h0⟩,?_⟩;rintro i m σ H ⟨rfl,c,p⟩;have q:=hl i σ H c p
 by_cases b:i<xs.length
 ·refine .inr ⟨⟨xs,xs[i],q,by simp[b]⟩,Pv (i+1),λσ' H' p'=>⟨xs.length-(i+1),⋯,rfl,b,p'⟩,λx H' y=>?_⟩
  obtain⟨e,y⟩:=y;subst e;exact hs i x σ _ (y xs q) p
 ·have e:i=xs.length:=by omega
  subst e;exact .inl ⟨⟨xs,q,K4 _⟩,hd σ H p⟩
theorem zO{lo:Int}{n:Nat}{g:TG}{tb:TS}{D:fF}{σ:St}{H:Hp}(Pv:Nat->St->Hp->Prop)(h0:Pv 0 σ H)
  (hs:∀i σ H,i<n->Pv i σ H->g (.int (lo+i)) σ H λσ2 H2=>tb {D with nx:=Pv (i+1),ct:=Pv (i+1),bk:=D.nx} σ2 H2) (hd:∀σ H,Pv n σ H->D.nx σ H) :
  ∃W:Nat->Nat->St->Hp->Prop,(∃m,W 0 m σ H)/\∀i m σ H,W i m σ H ->
   ((xV lo n).stop i H/\D.nx σ H)\/((xV lo n).go i H/\∃N:St->Hp->Prop,(∀σ' H',N σ' H'->∃m',m'<m/\W (i+1) m' σ' H')/\∀x H',(xV lo n).yld i H x H'->g x σ H' λσ2 H2=>tb {D with nx:=N,ct:=N,bk:=D.nx} σ2 H2):=by
 refine⟨λi m σ H=>m=n-i/\i<=n/\Pv i σ H,⟨n,by simp,K5 _,h0⟩,?_⟩;rintro i m σ H ⟨rfl,hi,p⟩
 by_cases a:i<n
 ·refine .inr ⟨a,Pv (i+1),λσ' H' p'=>⟨n-(i+1),⋯,rfl,a,p'⟩,λx H' y=>?_⟩
  obtain⟨e,y⟩:=y;subst e y;exact hs i σ _ a p
 ·have e:i=n:=by omega
  subst e;exact .inl ⟨K4 _,hd σ H p⟩
theorem Bb{c:TT}{D:fF}{σ:St}{H:Hp}(Pv:St->Hp->Prop)(μ:St->Hp->Nat)(h0:Pv σ H)
  (hs:∀σ H,Pv σ H->c σ H λb H1=>if b=true then tb {D with nx:=λσ' H'=>Pv σ' H'/\μ σ' H'<μ σ H,ct:=λσ' H'=>Pv σ' H'/\μ σ' H'<μ σ H,bk:=D.nx} σ H1 else D.nx σ H1)
  (mono:∀σ H Q Q',(∀b H1,Q b H1->Q' b H1)->c σ H Q->c σ H Q'):tL c tb D σ H:=by
 refine⟨λm σ H=>m=μ σ H/\Pv σ H,⟨_,rfl,h0⟩,?_⟩;rintro m σ H ⟨rfl,p⟩;refine mono σ H _ _ (λb H1 q=>?_) (hs σ H p);cases b with
 |true=>exact⟨_,λσ' H' ⟨a,l⟩=>⟨_,l,rfl,a⟩,q⟩
 |false=>exact q
abbrev R2:=V->V->Hp->VK->Prop
def bE(X:Cx)(f:Value->Value->Sem Value)(r:R2):Prop:=
 ∀(pins:Lz) (s:LB) (σ:St) (H:Hp) (x y:V) (v u:Value) (Q:VK),Inv X pins σ H s->bH x v->bH y u->r x y H Q ->
  wpAny (model X.prog X.w) X.A (f v u) (EP X pins σ Q) X.xe s
def d0(X:Cx)(f:Value)(r:List V->Hp->VK->Prop):Prop:=
 ∀(pins:Lz) (s:LB) (σ:St) (H:Hp) (xs:List V) (us:LC) (Q:VK),Inv X pins σ H s->bx xs us->r xs H Q ->
  wpAny (model X.prog X.w) X.A (call f us) (EP X pins σ Q) X.xe s
def Et(r:R2)(ta tb:TE):TE:=λσ H Q=>ta σ H λx H1=>tb σ H1 λy H2=>r x y H2 Q
def rI(C:Int->Int->Prop)(g:Int->Int->V):R2:=λx y H Q=>∃i j,x=.int i/\y=.int j/\C i j/\Q (g i j) H
def y4(g:Int->Int->V):R2:=λx y H Q=>∃i j,x=.int i/\y=.int j/\Q (g i j) H
section
variable {X:Cx}{a b c:Expr}{ta tb tc:TE}{pos:Pos}
theorem Fd(ha:PE X a ta)(hb:PE X b tb){pins:Lz}{s:LB}{σ:St}{H:Hp}{R:V->V->Hp->Prop}(I:Inv X pins σ H s)
  (h:ta σ H λx H1=>tb σ H1 λy H2=>R x y H2) {Q:Lx} {f:Value->Value->Sem Value}
  (hf:∀v u s2 x y H2,Inv X pins σ H2 s2->bH x v->bH y u->R x y H2->wpAny (model X.prog X.w) X.A (f v u) Q X.xe s2) :
  wpAny (model X.prog X.w) X.A (eval a X.env) (λv s₁=>wpAny (model X.prog X.w) X.A (eval b X.env) (λu s₂=>wpAny (model X.prog X.w) X.A (f v u) Q X.xe s₂) X.xe s₁) X.xe s:=by
 refine cz (ha pins s σ H _ I h) λv c ⟨x,H1,k,e,i⟩=>?_;refine cz (hb pins c σ H1 _ k i) λu s2 ⟨y,H2,j,d,g⟩=>?_;exact hf v u s2 x y H2 j e d g
theorem ay{op:Operator}{r:R2}(ho:bE X (binaryOp op) r)(ha:PE X a ta)(hb:PE X b tb):PE X (.BinOp a op b pos) (Et r ta tb):=by
 intro c s σ H Q I h;exact wpAny_BinOp (Fd ha hb I h λv u d x y H2 i g e q=>ho c d σ H2 x y v u Q i g e q)
theorem GY{f:Value->Value->Sem Value}{C:Int->Int->Prop}{g:Int->Int->Int}
  (rule:∀(i j:Int) (t u:Tok) (s:LB) (Q:Lx) (E:Lx),C i j->Q (.int (g i j) s.toks) {s with toks:=s.toks+1}->wpAny (model X.prog X.w) X.A (f (.int i t) (.int j u)) Q E s) :
  bE X f (rI C λi j=>.int (g i j)):=by
 intro pins s σ H x y v u Q I rx ry h;obtain⟨i,j,rfl,rfl,b,q⟩:=h;obtain⟨t,rfl⟩:=rx;obtain⟨a,rfl⟩:=ry;exact rule i j t a s _ _ b ⟨.int (g i j),H,I.tok _,⟨_,rfl⟩,q⟩
theorem FS{f:Value->Value->Sem Value}{g:Int->Int->Int}
  (rule:∀(i j:Int) (t u:Tok) (s:LB) (Q:Lx) (E:Lx),Q (.int (g i j) s.toks) {s with toks:=s.toks+1}->wpAny (model X.prog X.w) X.A (f (.int i t) (.int j u)) Q E s) :
  bE X f (y4 λi j=>.int (g i j)):=by
 intro pins s σ H x y v u Q I rx ry h;obtain⟨i,j,rfl,rfl,q⟩:=h;obtain⟨t,rfl⟩:=rx;obtain⟨a,rfl⟩:=ry;exact rule i j t a s _ _ ⟨.int (g i j),H,I.tok _,⟨_,rfl⟩,q⟩
theorem Dq{f:Value->Value->Sem Value}{g:Int->Int->Bool}
  (rule:∀(i j:Int) (t u:Tok) (s:LB) (Q:Lx) (E:Lx),Q (.bool (g i j)) s->wpAny (model X.prog X.w) X.A (f (.int i t) (.int j u)) Q E s) :
  bE X f (y4 λi j=>.bl (g i j)):=by
 intro pins s σ H x y v u Q I rx ry h;obtain⟨i,j,rfl,rfl,q⟩:=h;obtain⟨t,rfl⟩:=rx;obtain⟨a,rfl⟩:=ry;exact rule i j t a s _ _ ⟨.bl (g i j),H,I,rfl,q⟩
def BY(i j:Int):Prop:=(-(2 ^ 64)<i/\i<2 ^ 64)\/(-(2 ^ 64)<j/\j<2 ^ 64)
theorem BY.ok(h:BY i j):IntMulOk i j:=by
 rcases h with⟨h1,h2⟩ | ⟨h1,h2⟩
 ·exact .of_left (intBits_le_64 h1 h2)
 ·exact .of_right (intBits_le_64 h1 h2)
theorem bK:bE X (binaryOp .Add) (y4 λi j=>.int (i+j)):=FS λ_ _ _ _ _ _ _ q=>add_int q
theorem iX:bE X (binaryOp .Sub) (y4 λi j=>.int (i-j)):=FS λ_ _ _ _ _ _ _ q=>sub_int q
theorem eD:bE X (binaryOp .Mult) (rI BY λi j=>.int (i*j)):=GY λ_ _ _ _ _ _ _ hc q=>mul_int q hc.ok
theorem aZ:bE X (binaryOp .Mod) (rI (λ_ j=>0<j) λi j=>.int (i%j)):=GY λi j _ _ _ _ _ hc q=>by
 have h1:(0:Int)<j:=hc;exact mod_int' ⋯ (by rw[Int.fmod_eq_emod_of_nonneg i ⋯];exact q)
end
def yR:V->V->Bool
 | .non,.non=>true | .non,.int _=>true | .int _,.non=>true | .non,.bl _=>true | .bl _,.non=>true | .non,.str _=>true | .str _,.non=>true
 | .int _,.int _=>true | .bl _,.bl _=>true | .str _,.str _=>true | .byt _,.byt _=>true
 | .int _,.str _=>true | .str _,.int _=>true | .bl _,.str _=>true | .str _,.bl _=>true
 |_,_=>false
def Hn:R2:=λx y H Q=>yR x y=true/\Q (.bl (decide (x=y))) H
def Hz:R2:=λx y H Q=>yR x y=true/\Q (.bl (!decide (x=y))) H
theorem yi{i j:Int}:decide (V.int i=V.int j)=(i==j):=by
 rw[Bool.eq_iff_iff];simp
theorem Cc:decide (V.bl i=V.bl j)=(i==j):=by
 rw[Bool.eq_iff_iff];simp
theorem yd:decide (V.str i=V.str j)=(i==j):=by
 rw[Bool.eq_iff_iff];simp
theorem xQ:decide (V.byt i=V.byt j)=(i.toList==j.toList):=by
 rw[Bool.eq_iff_iff];cases i;cases j;simp
section
variable {X:Cx}{a b c:Expr}{ta tb tc:TE}{pos:Pos}
theorem bY{pins:Lz}{σ:St}{Q:VK}{k':Bool}(I:Inv X pins σ H s)(q:Q (.bl k) H)(e:k=k'):EP X pins σ Q (.bool k') s:=by
 subst e;exact⟨.bl k,H,I,rfl,q⟩
theorem dz:bE X (compareOp .Eq) Hn:=by
 intro pins s σ H x y v u Q I rx ry h;obtain⟨b,q⟩:=h;cases x with
 |non=>
  cases rx;cases y with
  |non=>cases ry;exact PySem.EqNone.eq_none_none (bY I q (by simp))
  |bl j=>cases ry;exact PySem.EqNone.eq_none_bool (bY I q (by simp))
  |int j=>obtain⟨a,rfl⟩:=ry;exact PySem.EqNone.eq_none_int (bY I q (by simp))
  |str j=>obtain⟨a,rfl⟩:=ry;exact PySem.EqNone.eq_none_str (bY I q (by simp))
  |_=>exact q0Q (show false=true from b) K6
 |bl i=>
  cases rx;cases y with
  |non=>cases ry;exact PySem.EqNone.eq_bool_none (bY I q (by simp))
  |bl j=>cases ry;exact eq_bool (bY I q Cc)
  |str j=>obtain⟨a,rfl⟩:=ry;exact PySem.EqMixed.eq_bool_str (bY I q (by simp))
  |_=>exact q0Q (show false=true from b) K6
 |int i=>
  obtain⟨t,rfl⟩:=rx;cases y with
  |non=>cases ry;exact PySem.EqNone.eq_int_none (bY I q (by simp))
  |int j=>obtain⟨a,rfl⟩:=ry;exact eq_int (bY I q yi)
  |str j=>obtain⟨a,rfl⟩:=ry;exact PySem.EqMixed.eq_int_str (bY I q (by simp))
  |_=>exact q0Q (show false=true from b) K6
 |str i=>
  obtain⟨t,rfl⟩:=rx;cases y with
  |non=>cases ry;exact PySem.EqNone.eq_str_none (bY I q (by simp))
  |bl j=>cases ry;exact PySem.EqMixed.eq_str_bool (bY I q (by simp))
  |int j=>obtain⟨a,rfl⟩:=ry;exact PySem.EqMixed.eq_str_int (bY I q (by simp))
  |str j=>obtain⟨a,rfl⟩:=ry;exact eq_str (bY I q yd)
  |_=>exact q0Q (show false=true from b) K6
 |byt i=>
  obtain⟨t,rfl⟩:=rx;cases y with
  |byt j=>obtain⟨a,rfl⟩:=ry;exact PySem.W.eq_bytes (bY I q xQ)
  |_=>exact q0Q (show false=true from b) K6
 |_=>cases y<;>exact q0Q (show false=true from b) K6
theorem Eg:bE X (compareOp .NotEq) Hz:=by
 intro pins s σ H x y v u Q I rx ry h;obtain⟨b,q⟩:=h;cases x with
 |non=>
  cases rx;cases y with
  |non=>cases ry;exact PySem.EqNone.ne_none_none (bY I q (by simp))
  |bl j=>cases ry;exact PySem.EqNone.ne_none_bool (bY I q (by simp))
  |int j=>obtain⟨a,rfl⟩:=ry;exact PySem.EqNone.ne_none_int (bY I q (by simp))
  |str j=>obtain⟨a,rfl⟩:=ry;exact PySem.EqNone.ne_none_str (bY I q (by simp))
  |_=>exact q0Q (show false=true from b) K6
 |bl i=>
  cases rx;cases y with
  |non=>cases ry;exact PySem.EqNone.ne_bool_none (bY I q (by simp))
  |bl j=>cases ry;exact ne_bool (bY I q (q0R not Cc))
  |str j=>obtain⟨a,rfl⟩:=ry;exact PySem.EqMixed.ne_bool_str (bY I q (by simp))
  |_=>exact q0Q (show false=true from b) K6
 |int i=>
  obtain⟨t,rfl⟩:=rx;cases y with
  |non=>cases ry;exact PySem.EqNone.ne_int_none (bY I q (by simp))
  |int j=>obtain⟨a,rfl⟩:=ry;exact ne_int (bY I q (q0R not yi))
  |str j=>obtain⟨a,rfl⟩:=ry;exact PySem.EqMixed.ne_int_str (bY I q (by simp))
  |_=>exact q0Q (show false=true from b) K6
 |str i=>
  obtain⟨t,rfl⟩:=rx;cases y with
  |non=>cases ry;exact PySem.EqNone.ne_str_none (bY I q (by simp))
  |bl j=>cases ry;exact PySem.EqMixed.ne_str_bool (bY I q (by simp))
  |int j=>obtain⟨a,rfl⟩:=ry;exact PySem.EqMixed.ne_str_int (bY I q (by simp))
  |str j=>obtain⟨a,rfl⟩:=ry;exact ne_str (bY I q (q0R not yd))
  |_=>exact q0Q (show false=true from b) K6
 |byt i=>
  obtain⟨t,rfl⟩:=rx;cases y with
  |byt j=>obtain⟨a,rfl⟩:=ry;exact PySem.W.ne_bytes (bY I q (q0R not xQ))
  |_=>exact q0Q (show false=true from b) K6
 |_=>cases y<;>exact q0Q (show false=true from b) K6
theorem qQ:bE X (compareOp .Lt) (y4 λi j=>.bl (decide (i<j))):=Dq λ_ _ _ _ _ _ _ q=>lt_int q
theorem rp:bE X (compareOp .LtE) (y4 λi j=>.bl (decide (i<=j))):=Dq λ_ _ _ _ _ _ _ q=>le_int q
theorem mj:bE X (compareOp .Gt) (y4 λi j=>.bl (decide (j<i))):=Dq λ_ _ _ _ _ _ _ q=>gt_int q
theorem Ea:bE X (compareOp .GtE) (y4 λi j=>.bl (decide (j<=i))):=Dq λ_ _ _ _ _ _ _ q=>ge_int q
theorem zq:bE X (compareOp .In) (λx y H Q=>∃i j,x=.str i/\y=.str j/\Q (.bl (!(Builtin.Str.occurrences j i 0 j.length 1).isEmpty)) H):=by
 intro pins s σ H x y v u Q I rx ry h;obtain⟨i,j,rfl,rfl,q⟩:=h;obtain⟨t,rfl⟩:=rx;obtain⟨t',rfl⟩:=ry;exact in_str (bY I q rfl)
theorem xL:bE X (compareOp .IsNot) (λx y H Q=>y=.non/\Q (.bl (!decide (x=.non))) H):=by
 intro pins s σ H x y v u Q I rx ry h;obtain⟨rfl,q⟩:=h;cases ry;refine isnot_none_gen (bY I q ?_);cases x<;>first
  | (cases rx;rfl)
  | (obtain⟨t,rfl⟩:=rx;rfl)
theorem sL:bE X (compareOp .NotIn) (λx y H Q=>∃i j,x=.str i/\y=.str j/\Q (.bl (!(!(Builtin.Str.occurrences j i 0 j.length 1).isEmpty))) H):=by
 intro pins s σ H x y v u Q I rx ry h;obtain⟨i,j,rfl,rfl,q⟩:=h;obtain⟨t,rfl⟩:=rx;obtain⟨t',rfl⟩:=ry;exact notIn_str (bY I q rfl)
theorem a_(b:Expr){op:CmpOp}(h:autoParam (op≠.In) zz1._auto_1)(h2:autoParam (op≠.NotIn) zz1._auto_1):behindInMarks op b=false:=by
 have c:(op==CmpOp.In)=false:=by cases op<;>first | rfl | exact q0Q rfl h
 have a:(op==CmpOp.NotIn)=false:=by cases op<;>first | rfl | exact q0Q rfl h2
 cases b<;>simp[behindInMarks,c,a]
theorem mW{op:CmpOp}{r:R2}(ho:bE X (compareOp op) r)(ha:PE X a ta)(hb:PE X b tb)(hm:behindInMarks op b=false):PE X (.Compare a [op] [b] pos) (Et r ta tb):=by
 intro c s σ H Q I h;exact wpAny_Compare1 (Fd ha hb I h λv u d x y H2 i g e q=>ho c d σ H2 x y v u Q i g e q) hm
def vD(t:TE):TT:=λσ H Q=>t σ H λx H'=>∃k,x=.bl k/\Q k H'
theorem aQ{op:CmpOp}{r:R2}(ho:bE X (compareOp op) r)(ha:PE X a ta)(hb:PE X b tb)(hm:behindInMarks op b=false):PT X (.Compare a [op] [b] pos) (vD (Et r ta tb)):=by
 intro d s σ H Q I h;refine wpAny_isTrue_Compare1 (cz (ha d s σ H _ I h) λv i ⟨x,H1,B,m,p⟩=>cz (hb d i σ H1 _ B p) λu g ⟨y,H2,w,l,o⟩=>
  cz (ho d g σ H2 x y v u _ w m l o) λc s3 ⟨z,C,q,j,k,e,n⟩=>?_) hm
 subst e;cases j;exact wpAny_truthy_bool ⟨C,q,n⟩
def wd(r r':R2)(ta tb tc:TE):TE:=λσ H Q=>ta σ H λx H1=>tb σ H1 λy H2=>r x y H2 λz H3=>∃k,z=.bl k /\
 (if k=true then tc σ H3 λw' H4=>r' y w' H4 Q else Q (.bl false) H3)
theorem uU{op op':CmpOp}{r r':R2}(ho:bE X (compareOp op) r)(ho':bE X (compareOp op') r')(ha:PE X a ta)(hb:PE X b tb)(hc:PE X c tc)
  (hm:lastMarks [op,op'] [b,c]=false:=by with_unfolding_all rfl):PE X (.Compare a [op,op'] [b,c] pos) (wd r r' ta tb tc):=by
 intro g s σ H Q I h;refine Compare_chain (cz (ha g s σ H _ I h) λv w ⟨x,H1,R,D,L⟩=>chain_link (cz (hb g w σ H1 _ R L) λu q ⟨y,H2,O,i,J⟩=>
  cz (ho g q σ H2 x y v u _ O D i J) λd p ⟨z,m,l,C,k,e,j⟩=>?_)) hm
 subst e;cases C;refine wpAny_truthy_bool ?_;cases k with
 |false=>exact ite_ff ⟨.bl false,m,l,rfl,j⟩
 |true=>exact ite_tt (chain_last (cz (hc g p σ m _ l j) λw' o ⟨n,S,M,B,G⟩=>ho' g o σ S y n u w' Q M i B G))
theorem nn:(sizeLine:Nat)<2 ^ 63:=by rw[q0W];decide
theorem h_:bE X (binaryOp .Add) (λx y H Q=>∃i j,x=.str i/\y=.str j/\i.length+j.length<=sizeLine/\Q (.str (i++j)) H):=by
 intro pins s σ H x y v u Q I rx ry h;obtain⟨i,j,rfl,rfl,b,q⟩:=h;obtain⟨t,rfl⟩:=rx;obtain⟨a,rfl⟩:=ry;exact add_str (λa tk=>⟨.str (i++j),H,I.tok _,⟨_,rfl⟩,q⟩) b
theorem mw{x:V}{us:LC}(r:bx [x] us):∃u,us=[u]/\bH x u:=by
 cases r with
 |cons r1 r2=>cases r2;exact⟨_,rfl,r1⟩
theorem Gm{x y:V}{us:LC}(r:bx [x,y] us):∃u w',us=[u,w']/\bH x u/\bH y w':=by
 cases r with
 |cons r1 r2=>
  cases r2 with
  |cons r3 r4=>cases r4;exact⟨_,_,rfl,r1,r3⟩
theorem Ac(hc:X.calm=true):d0 X (.builtin "max") (λxs H Q=>∃i j,xs=[.int i,.int j]/\Q (.int (if j>i then j else i)) H):=by
 intro pins s σ H xs us Q I r h;obtain⟨i,j,rfl,q⟩:=h;obtain⟨u,w',rfl,⟨t,rfl⟩,⟨t',rfl⟩⟩:=Gm r;refine max_two_ints (I.ok.hd hc) λh' tk k=>⟨_,H,I.kept k,?_,q⟩
 by_cases a:j>i
 ·rw[q07 a,q07 a];exact⟨_,rfl⟩
 ·rw[q06 a,q06 a];exact⟨_,rfl⟩
end
structure wO(h:Heap)(x dx C:Addr)(mA:LF):Prop where
 obj:h.get? x=some (PySem.W.instObj C dx)
 ns:h.Ns1 dx mA
 ne:dx≠x
set_option tactic.hygienic true in
theorem yG{h:Heap}{mA:LF}(n:h.Ns1 dx mA):∃od,h.get? dx=some od/\∀name,PySem.W.lookIn name od=some (mA name):=by
 obtain⟨o,es,ep,ho,hd,hk,_,hm⟩:=n;refine⟨o,ho,λname=>?_⟩;have e:=hm name;unfold nsFind findBy at e;rw[<- Array.find?_toList]at e;unfold PySem.W.lookIn;rw[hd];dsimp only
 split
 ·rename_i y q
  rw[q]at e;exact q0R some e
 ·rename_i q
  rw[q]at e;have a:es.toList.any (·.refKey)=false:=by
   rw[List.any_eq_false];intro y hy;obtain⟨z,t,hkey⟩:=hk y (Array.mem_toList_iff.mp hy);simp[DictEntry.refKey,hkey]
  have a':¬ es.toList.any (·.refKey)=true:=by rw[a];exact K6
  rw[q06 a'];exact q0R some e
theorem wO.look{mA:LF}(I:wO h x dx C mA):∃od,PySem.W.InstAt h x (PySem.W.instObj C dx) C (some od)/\∀name,PySem.W.lookIn name od=some (mA name):=
 let ⟨od,ho,hl⟩:=yG I.ns
 ⟨od,⟨I.obj,rfl,rfl,ho⟩,hl⟩
section
variable {prog:LH}{w:LK}{A:LJ}{E:Lx}{s:LB}{K:Ly}{x dx C f:Addr}{mA:LF}{name:Str}{v:Value}
theorem DO{expr:Bool}{Q:Lx}(X:K.In s.heap)(I:wO s.heap x dx C mA)(hg:PySem.W.plainGet K C name=true)(hh:PySem.W.hasDictIn K C=true)
  (ha:PySem.W.findIn K (.ref C) name=some none) (hv:mA name=some v) (hv':PySem.W.handedIn v=true) (h:Q v {s with toks:=s.toks+1}) :
  wpAny b⁻¹ A (getAttr (.ref x) name expr) Q E s:=by
 obtain⟨od,J,a⟩:=I.look;exact PySem.W.get_value X J (PySem.W.plainGet_of hg).1 (PySem.W.findObj_own hh ha rfl (by rw[a,hv])) hv' h
theorem BQ{pl:Sem Bool}{Q:Value×List Value->Shared->Prop}(X:K.In s.heap)(I:wO s.heap x dx C mA)(hg:PySem.W.plainGet K C name=true)
  (hf:PySem.W.findIn K (.ref C) name=some (some (.ref f))) (ht:PySem.W.isFn K (.ref f)=true) (hv:mA name=none) (h:Q (.ref f,[.ref x]) s) :
  wpAny b⁻¹ A (getMethod (.ref x) name pl) Q E s:=by
 obtain⟨a,J,b⟩:=I.look;exact PySem.W.method_fn X J (PySem.W.plainGet_of hg).1 (PySem.W.plainGet_of hg).2 hf (beq_iff_eq.mp ht) (by show(PySem.W.lookIn name a).map (·.isSome)=some false;rw[b,hv];rfl) h
theorem DH{ns:LI}{Q:Unit->Shared->Prop}(X:K.In s.heap)(I:wO s.heap x dx C mA)
  (hs:PySem.W.findIn K (.ref C) "__setattr__"=some (some (.builtin "object.__setattr__"))) (hp:PySem.W.plainOver K C=true) (ht:PySem.W.takerIn K C name=some none) (hh:PySem.W.hasDictIn K C=true)
  (hw:PySem.Within mA ns) (hsz:ns.length<=sizeLine)
  (h:∀h',wO h' x dx C (λy=>if y=name then some v else mA y)->Heap.SameBut dx s.heap h'->Q () {s with heap:=h',toks:=s.toks+2}) :
  wpAny b⁻¹ A (setAttr (.ref x) name v) Q E s:=by
 obtain⟨od,J,hl⟩:=I.look;refine PySem.W.set_plain X J hs (PySem.W.osa_open (s:={s with toks:=s.toks+1}) (r:=none) X J hp ht λb=>?_);obtain⟨cd,l,i⟩:=PySem.W.any_some hh;have k:s.heap.get? x=some ⟨.ref C,some dx,.plain,#[]⟩:=I.obj;refine q04 (q05 (q04 (q04 (wpAny_loadPart k (q04 (PySem.W.Looks.here (s:={s with toks:=s.toks+1}) (PySem.W.looks_clsIn X l) ?_))))));rw[i];refine q05 (a:=some dx) (q04 (q05 (q04 ?_)));refine wpAny_nsSet1 (s:={s with toks:=s.toks+1}) I.ns λh' d c=>?_;obtain⟨oD,esD,epD,e,g,j⟩:=d.count (PySem.Within.cons name v hw);refine q04 (wpAny_lookBehind e (by rw[g];exact pastItsLine_dict (K' j (by rw[KP];omega))) ?_);exact q05 (h _ ⟨(c.2 _ (Ne.symm I.ne)).trans I.obj,d,I.ne⟩ c)
theorem A6{R:Result->Shared->Prop}{vs:LC}{kw:List (Str×Value)}(X:K.In s.heap)(hm:PySem.W.makesIn K C=true)
  (hi:PySem.W.findIn K (.ref C) "__init__"=some (some (.ref f))) (hf:PySem.W.typeIn K (.ref f)=some (.type "function"))
  (h:codeAny b⁻¹ (A.under (.builtin "type.__call__" ⟨.ref C::vs,kw⟩)) (.call (.ref f) ⟨.ref (s.heap.objs.size+1)::vs,kw⟩) (PySem.W.InitBack (s.heap.objs.size+1) R)
   {s with heap:=(s.heap.push PySem.W.emptyDict).push (PySem.W.instObj C s.heap.objs.size)}) :
  codeAny b⁻¹ A (.call (.ref C) ⟨vs,kw⟩) R s:=by
 obtain⟨hh,g,d,t,os⟩:=s;exact PySem.W.make_core (PySem.W.makes_of X hm) (PySem.W.looks_findIn X hi) (λself=>PySem.W.bind_fn X self hf) (.inl rfl) h
end
def cQ(f:Str)(v:V):List (Str×V)->List (Str×V)
 | []=>[(f,v)]
 | (g,x)::r=>if g=f then(g,v)::r else(g,x)::cQ f v r
theorem lX(f g:Str)(v:V):∀fs:List (Str×V),(cQ f v fs).lookup g=if g=f then some v else fs.lookup g
 | []=>by
  show List.lookup g [(f,v)]=_
  by_cases h:g=f
  ·have hb:(g==f)=true:=beq_iff_eq.mpr h
   simp only[List.lookup,hb,q07 h]
  ·have hb:(g==f)=false:=beq_eq_false_iff_ne.mpr h
   simp only[List.lookup,hb,q06 h]
 | (k,x)::r=>by
  have ih:=lX f g v r;rw[show cQ f v ((k,x)::r)=(if k=f then(k,v)::r else(k,x)::cQ f v r) from rfl]
  by_cases hk:k=f
  ·rw[q07 hk]
   by_cases h:g=k
   ·have hb:(g==k)=true:=beq_iff_eq.mpr h
    simp only[List.lookup,hb,q07 (h.trans hk)]
   ·have hb:(g==k)=false:=beq_eq_false_iff_ne.mpr h
    simp only[List.lookup,hb,q06 (λe:g=f=>h (e.trans hk.symm))]
  ·rw[q06 hk]
   by_cases h:g=k
   ·have hb:(g==k)=true:=beq_iff_eq.mpr h
    simp only[List.lookup,hb,q06 (λe:g=f=>hk (h.symm.trans e))]
   ·have hb:(g==k)=false:=beq_eq_false_iff_ne.mpr h
    simp only[List.lookup,hb];exact ih
theorem kQ(f:Str)(v:V):∀fs:List (Str×V),f∈(cQ f v fs).map (·.1)/\∀g,g∈fs.map (·.1)->g∈(cQ f v fs).map (·.1)
 | []=>⟨by simp[cQ],λg h=>by simp at h⟩
 | (k,x)::r=>by
  obtain⟨i1,i2⟩:=kQ f v r;rw[show cQ f v ((k,x)::r)=(if k=f then(k,v)::r else(k,x)::cQ f v r) from rfl]
  by_cases hk:k=f
  ·rw[q07 hk]
   subst hk;exact⟨by simp,λg h=>by simpa using h⟩
  ·rw[q06 hk]
   refine⟨?_,λg h=>?_⟩
   ·rw[K_]
    exact KW _ i1
   ·rw[K_]at h ⊢
    rcases KU.mp h with e | e
    ·exact KU.mpr (.inl e)
    ·exact KW _ (i2 g e)
theorem dq(f:Str)(v:V):∀fs:List (Str×V),(cQ f v fs).length<=fs.length+1
 | []=>by simp[cQ]
 | (k,x)::r=>by
  have ih:=dq f v r;rw[show cQ f v ((k,x)::r)=(if k=f then(k,v)::r else(k,x)::cQ f v r) from rfl]
  by_cases hk:k=f
  ·rw[q07 hk,KP,KP];omega
  ·rw[q06 hk,KP,KP];omega
theorem iD.some_of{v:V}{o:Option Value}(r:iD (some v) o):∃u,o=some u/\bH v u:=by
 cases o with
 |none=>exact(show False from r).elim
 |some u=>exact⟨u,rfl,r⟩
theorem iD.none_of(r:iD none o):o=none:=by
 cases o with
 |none=>rfl
 |some u=>exact(show False from r).elim
theorem yA(r:bH v u):PySem.W.handedIn u=true:=by
 cases v with
 |non=>cases(show u=Value.none from r);rfl
 |bl b=>cases(show u=Value.bool b from r);rfl
 |int i=>obtain⟨t,e⟩:=(show ∃t,u=Value.int i t from r);cases e;rfl
 |str x=>obtain⟨t,e⟩:=(show ∃t,u=Value.str x t from r);cases e;rfl
 |byt b=>obtain⟨t,e⟩:=(show ∃t,u=Value.bytes b t from r);cases e;rfl
 |flt b=>obtain⟨t,e⟩:=(show ∃t,u=Value.float b t from r);cases e;rfl
 |ref a=>cases(show u=Value.ref a from r);rfl
 |ty n=>cases(show u=Value.type n from r);rfl
section
variable {P:LH}{w:LK}{H H':Hp}{h h':Heap}{a C dx:Addr}{fs fs':List (Str×V)}
theorem m_(hok:i4 P w H h)(e:H a=some (.ins C dx fs)):∃mA,wO h a dx C mA/\(∀f,iD (fs.lookup f) (mA f))/\PySem.Within mA (fs.map (·.1))/\fs.length<=1000/\H dx=some (.own a):=by
 obtain⟨d,z,c,b,mA,n,r,q⟩:=(show b8 P w H h a (.ins C dx fs) from hok a _ e);exact⟨mA,⟨b,n,c⟩,r,q,z,d⟩
end
structure jF(K:Ly)(C:Addr):Prop where
 pg:PySem.W.plainGet K C Str.empty=true
 hd:PySem.W.hasDictIn K C=true
 po:PySem.W.plainOver K C=true
 sa:PySem.W.findIn K (.ref C) "__setattr__"=some (some (.builtin "object.__setattr__"))
theorem jF.get{K:Ly}(c:jF K C)(f:Str):PySem.W.plainGet K C f=true:=c.pg
def aJ(K:Ly)(C:Addr)(f:Str):Prop:=PySem.W.findIn K (.ref C) f=some none
theorem aJ.taker{K:Ly}{f:Str}(n:aJ K C f):PySem.W.takerIn K C f=some none:=by
 unfold PySem.W.takerIn;rw[show PySem.W.findIn K (.ref C) f=some none from n]
 rfl
structure iI(K:Ly)(C:Addr)(m:Str)(f:Addr):Prop where
 at_:PySem.W.findIn K (.ref C) m=some (some (.ref f))
 fn:PySem.W.isFn K (.ref f)=true
 kp:PySem.W.keepIn K (.ref f)=true
section
variable {X:Cx}{pins:Lz}{σ:St}{H:Hp}{s:LB}{a C dx:Addr}{fs:List (Str×V)}{f:Str}{v:V}{A:LJ}{E:Lx}
theorem xo{Q:Lx}(I:Inv X pins σ H s)(e:H a=some (.ins C dx fs))(c:jF X.K C)(n:aJ X.K C f)(l:fs.lookup f=some v)
  (h:∀u s',Inv X pins σ H s'->bH v u->Q u s'):wpAny (model X.prog X.w) A (getAttr (.ref a) f b) Q E s:=by
 obtain⟨g,O,r,_,_,_⟩:=m_ I.hok e;obtain⟨u,i,d⟩:=iD.some_of (v:=v) (o:=g f) (by rw[<- l];exact r f);exact DO I.kIn O (c.get f) c.hd n i (yA d) (h u _ (I.tok _) d)
theorem fR{pl:Sem Bool}{Q:Value×List Value->Shared->Prop}(I:Inv X pins σ H s)(e:H a=some (.ins C dx fs))(c:jF X.K C)(k:iI X.K C m g)(l:fs.lookup m=none)
  (h:Q (.ref g,[.ref a]) s):wpAny (model X.prog X.w) A (getMethod (.ref a) m pl) Q E s:=by
 obtain⟨b,O,r,_,_,_⟩:=m_ I.hok e;have d:b m=none:=iD.none_of (by rw[<- l];exact r m);exact BQ I.kIn O (c.get m) k.at_ k.fn d h
theorem wq{Q:Unit->Shared->Prop}(I:Inv X pins σ H s)(e:H a=some (.ins C dx fs))(c:jF X.K C)(n:aJ X.K C f)(hl:fs.length<1000)(ry:bH y u)
  (h:∀s',Inv X pins σ (aE H a (.ins C dx (cQ f y fs))) s'->Q () s'):wpAny (model X.prog X.w) A (setAttr (.ref a) f u) Q E s:=by
 obtain⟨j,O,r,i,_,k⟩:=m_ I.hok e;have m:(fs.map (·.1)).length<=sizeLine:=by rw[KD,q0W];omega
 refine DH I.kIn O c.sa c.po n.taker c.hd i m λw d l=>h _ ?_;have hd:∃o,w.get? dx=some o:=let ⟨o,_,_,e',_⟩:=d.ns;⟨o,e'⟩
 refine I.write (x:=a) (e:=dx) (by rw[e];exact True.intro) (.inr k) (λb q v z=>(l.2 b v).trans z) hd ?_;refine⟨by rw[av O.ne];exact k,?_,O.ne,d.obj,_,d.ns,λg=>?_,λg p=>?_⟩
 ·have:=dq f y fs;omega
 ·show iD ((cQ f y fs).lookup g) (if g=f then some u else j g)
  rw[lX]
  by_cases q:g=f
  ·rw[q07 q,q07 q];exact ry
  ·rw[q06 q,q06 q];exact r g
 ·by_cases q:g=f
  ·rw[q];exact(kQ f y fs).1
  ·refine(kQ f y fs).2 g (i g λz=>p ?_)
   show(if g=f then some u else j g)=none;rw[q06 q];exact z
theorem Inv.made(I:Inv X pins σ H s):Inv X pins σ (aE (aE H s.heap.objs.size (.own (s.heap.objs.size+1))) (s.heap.objs.size+1) (.ins C s.heap.objs.size []))
  {s with heap:=(s.heap.push PySem.W.emptyDict).push (PySem.W.instObj C s.heap.objs.size)}:=by
 have d:(s.heap.push PySem.W.emptyDict).get? s.heap.objs.size=some PySem.W.emptyDict:=KJ s.heap rfl;have k:((s.heap.push PySem.W.emptyDict).push (PySem.W.instObj C s.heap.objs.size)).get? (s.heap.objs.size+1)=some (PySem.W.instObj C s.heap.objs.size):=by
  have:=KJ (s.heap.push PySem.W.emptyDict) (o:=PySem.W.instObj C s.heap.objs.size) rfl
  rwa [Heap.size_push]at this
 have j:(s.heap.push PySem.W.emptyDict).Ns s.heap.objs.size (λ_=>none):=⟨PySem.W.emptyDict,#[],_,d,rfl,(λe i=>q0Q i (by simp)),λ_=>rfl⟩;have l:=I.laid (a:=s.heap.objs.size) (o:=.own (s.heap.objs.size+1)) (h':=s.heap.push PySem.W.emptyDict) (t':=s.toks) (λb u q=>KC _ q) (K4 _) ⟨_,d⟩;refine l.laid (a:=s.heap.objs.size+1) (o:=.ins C s.heap.objs.size []) (t':=s.toks) (λb u q=>KC _ q) (Nat.le_of_eq (Heap.size_push _ _)) ?_;have c:s.heap.objs.size≠s.heap.objs.size+1:=K0 (Lb _);refine⟨by rw[av c,af],K5 _,c,k,λ_=>none,(Heap.Ns1.of_empty j).at λo q=>KC _ q,λ_=>True.intro,λy g=>q0Q rfl g⟩
theorem DV{prog:LH}{env:Env}{f:Str}{pos:Pos}{Q:Lx}(hb:attributeBase e f env (eval e env)=eval e env)
  (h:wpAny b⁻¹ A (eval e env) (λo s₁=>wpAny b⁻¹ A (getAttr o f true) Q E s₁) E s):wpAny b⁻¹ A (eval (.Attribute e f pos) env) Q E s:=
 Attribute_any_ h (by rw[arm_eval_Attribute,hb])
end
def DA(K:Ly)(ta:TE)(f:Str):TE:=λσ H Q=>ta σ H λx H1=>∃a C dx fs v,x=.ref a/\H1 a=some (.ins C dx fs)/\jF K C/\aJ K C f/\fs.lookup f=some v/\Q v H1
def Fs(K:Ly)(ta tv:TE)(f:Str):TS:=λD σ H=>tv σ H λy H1=>ta σ H1 λx H2=>∃a C dx fs,x=.ref a/\H2 a=some (.ins C dx fs)/\jF K C/\aJ K C f/\fs.length<1000 /\
 D.nx σ (aE H2 a (.ins C dx (cQ f y fs)))
section
variable {X:Cx}{o e value:Expr}{f:Str}{pos pos' tpos:Pos}{ta tv:TE}
theorem cK(he:PE X e ta)(hb:attributeBase e f X.env (eval e X.env)=eval e X.env):PE X (.Attribute e f pos) (DA X.K ta f):=by
 intro b s σ H Q I h;refine DV hb (cz (he b s σ H _ I h) λu s1 ⟨x,H1,m,d,a,C,dx,fs,v,i,j,c,n,l,q⟩=>?_);subst i;obtain rfl:u=Value.ref a:=d;exact xo m j c n l λu' s2 k g=>⟨v,H1,k,g,q⟩
theorem c_(ha:PE X o ta)(hv:PE X value tv)(hs:swapsWith value (some (.Attribute o f pos')) pos.line X.env=pure false):PS X (.Assign [.Attribute o f pos'] value pos) (Fs X.K ta tv f):=by
 intro b s σ H D I h;refine plainObj_wpAny_Assign_Attribute (cz (hv b s σ H _ I h) λu d ⟨y,H1,r,e,q⟩=>cz (ha b d σ H1 _ r q) λov s2 ⟨x,H2,p,g,a,C,dx,fs,j,k,c,n,l,i⟩=>?_) hs;subst j;obtain rfl:ov=Value.ref a:=g;exact wq p k c n l e λs3 m=>⟨σ,_,m,i⟩
end
section
variable {X:Cx}{pins:Lz}{σ:St}{H:Hp}{s:LB}{A:LJ}{E:Lx}{Q:Lx}{c:Value}{b:Bool}
inductive jm(K:Ly)(H:Hp):V->Value->Prop where
 |non:jm K H .non (.type "NoneType")
 |bl (x:Bool):jm K H (.bl x) (.type "bool")
 |int (i:Int):jm K H (.int i) (.type "int")
 |str (x:Str):jm K H (.str x) (.type "str")
 |flt (x:UInt64):jm K H (.flt x) (.type "float")
 |lst {a:Addr} {xs:List V} (e:H a=some (.lst xs)):jm K H (.ref a) (.type "list")
 |frz {a:Addr} {o:Obj} {xs:List V} (e:H a=some (.frz o (.lst xs))):jm K H (.ref a) (.type "list")
 |tup {a:Addr} {xs:List V} (e:H a=some (.tup xs)):jm K H (.ref a) (.type "tuple")
 |dK {a:Addr} {kvs:List (cL×V)} (e:H a=some (.dK kvs)):jm K H (.ref a) (.type "dict")
 |dT {a:Addr} {kvs:List (List cL×V)} (e:H a=some (.dT kvs)):jm K H (.ref a) (.type "dict")
 |ins {a C dx:Addr} {fs:List (Str×V)} (e:H a=some (.ins C dx fs)) (cl:jF K C) (ha:PySem.W.findIn K (.ref C) "__class__"=some (some (.builtin "object.__class__")))
   (hn:PySem.W.specialIn K (.builtin "object.__class__") "__get__"=some (some (.builtin "getset_descriptor.__get__"))) (htk:PySem.W.takesIn K (.builtin "object.__class__")=some true)
   (hm:PySem.W.mroIn K C (.type "object")=some true):jm K H (.ref a) (.ref C)
theorem Aa{t:Value}(I:Inv X pins σ H s)(rx:bH x u)(ty:jm X.K H x t)(e:PySem.W.kitOne X.K t c=some b)(h:∀tk,Q (.bool b) {s with toks:=tk}) :
  wpAny (model X.prog X.w) A (call (.builtin "isinstance") [u,c]) Q E s:=by
 cases ty with
 |non=>cases(show u=Value.none from rx);exact PySem.W.kia_one PySem.W.kitx_none I.kIn True.intro e (λz=>nomatch z) h
 |bl y=>cases(show u=Value.bool y from rx);exact PySem.W.kia_one PySem.W.kitx_bool I.kIn True.intro e (λz=>nomatch z) h
 |int i=>obtain⟨t,q⟩:=(show ∃t,u=Value.int i t from rx);cases q;exact PySem.W.kia_one PySem.W.kitx_int I.kIn True.intro e (λz=>nomatch z) h
 |str y=>obtain⟨t,q⟩:=(show ∃t,u=Value.str y t from rx);cases q;exact PySem.W.kia_one PySem.W.kitx_str I.kIn True.intro e (λz=>nomatch z) h
 |flt y=>obtain⟨t,q⟩:=(show ∃t,u=Value.float y t from rx);cases q;exact PySem.W.kia_one PySem.W.kitx_float I.kIn True.intro e (λz=>nomatch z) h
 | @lst a d ea=>
  cases(show u=Value.ref a from rx);obtain⟨_,_,n,_,h1⟩:=(show b8 X.prog X.w H s.heap a (.lst d) from I.hok a _ ea);exact PySem.W.kia_one PySem.W.kitx_list I.kIn ⟨_,h1,rfl⟩ e (λz=>nomatch z) h
 | @frz a ob d ea=>
  cases(show u=Value.ref a from rx);obtain⟨_,_,_,n,_,h1⟩:=(show b8 X.prog X.w H s.heap a (.frz ob (.lst d)) from I.hok a _ ea);exact PySem.W.kia_one PySem.W.kitx_list I.kIn ⟨_,h1,rfl⟩ e (λz=>nomatch z) h
 | @tup a d ea=>
  cases(show u=Value.ref a from rx);obtain⟨_,_,_,p⟩:=(show b8 X.prog X.w H s.heap a (.tup d) from I.hok a _ ea);obtain⟨o,h1,h2,_⟩:=p;exact PySem.W.kia_one PySem.W.kitx_tuple I.kIn ⟨o,h1,h2⟩ e (λz=>nomatch z) h
 | @dK a kvs ea=>
  cases(show u=Value.ref a from rx);obtain⟨_,_,vs,_,p⟩:=(show b8 X.prog X.w H s.heap a (.dK kvs) from I.hok a _ ea);obtain⟨o,g,j,h1,h2,_⟩:=p;exact PySem.W.kia_one PySem.W.kitx_dict I.kIn ⟨o,h1,h2.1⟩ e (λz=>nomatch z) h
 | @dT a kvs ea=>
  cases(show u=Value.ref a from rx);obtain⟨_,_,d,_,o,g,j,h1,h2,_⟩:=(show b8 X.prog X.w H s.heap a (.dT kvs) from I.hok a _ ea);exact PySem.W.kia_one PySem.W.kitx_dict I.kIn ⟨o,h1,h2.1⟩ e (λz=>nomatch z) h
 | @ins a C dx fs ea cl ha hn htk hm=>
  cases(show u=Value.ref a from rx);obtain⟨mA,O,_⟩:=m_ I.hok ea;obtain⟨od,J,_⟩:=O.look;exact PySem.W.kia_one (PySem.W.kitx_own (cl.get _) cl.hd ha hn htk hm) I.kIn J e (λz=>nomatch z) h
end
structure c8(k:Nat)(A:LJ):Prop where
 hd:A.handled=none
 dp:A.depth+3*k+5<recursionLimit
 un:A.units+16*k+200<cLine
theorem c8.mono{j:Nat}(r:c8 k A)(h:j<=k):c8 j A:=⟨r.hd,by have:=r.dp;omega,by have:=r.un;omega⟩
theorem c8.deeper{k:Nat}{A:LJ}(r:c8 (k+1) A)(env:Env):c8 k (A.deeper env):=
 ⟨r.hd,by have:=r.dp;show A.depth+1+3*k+5<_;omega,by have:=r.un;show A.units+3+16*k+200<_;omega⟩
theorem c8.in1{k:Nat}{A:LJ}(r:c8 (k+1) A):c8 k A.in1:=
 ⟨r.hd,by have:=r.dp;show A.depth+3*k+5<_;omega,by have:=r.un;show A.units+1+16*k+200<_;omega⟩
theorem xx{A:LJ}{C:Addr}{us:LC}{kw:List (Str×Value)}:(A.under (.builtin "type.__call__" ⟨.ref C::us,kw⟩)).depth=A.depth+1:=by
 first | rfl | simp[Around.under,Code.weight,Code.isCreation,Code.isGuard,Code.isCaller,Code.frames,Code.isFrame,guardIds]
theorem wK{A:LJ}{C:Addr}{us:LC}{kw:List (Str×Value)}:(A.under (.builtin "type.__call__" ⟨.ref C::us,kw⟩)).units=A.units+1:=by
 first | rfl | simp[Around.under,Code.cUnits,Code.frames,Code.isFrame]
theorem c8.make{k:Nat}{A:LJ}(r:c8 (k+1) A)(C:Addr)(us:LC)(kw:List (Str×Value)):c8 k (A.under (.builtin "type.__call__" ⟨.ref C::us,kw⟩)):=
 ⟨r.hd,by have:=r.dp;rw[xx];omega,by have:=r.un;rw[wK];omega⟩
theorem c8.depth(r:c8 k A):A.depth<recursionLimit:=by have:=r.dp;omega
theorem c8.units(r:c8 k A):A.units+64<cLine:=by have:=r.un;omega
def om:TA:=λ_ H Q=>Q [] H
def jB(ta:TE)(tr:TA):TA:=λσ H Q=>ta σ H λx H1=>tr σ H1 λxs H2=>Q (x::xs) H2
section
variable {X:Cx}{e:Expr}{es:LM}{te:TE}{t:TA}{pos:Pos}
theorem ad:PA X [] om:=λ_ _ _ _ H Q I h=>Calls.spliced_nil ⟨[],H,I,.nil,h⟩
theorem ac(ha:PE X e te)(hr:PA X es t)(hs:autoParam (starEach (e::es) X.env=(false,eval e X.env)::starEach es X.env) zz0._auto_1):PA X (e::es) (jB te t):=by
 intro b a s σ H Q I h;rw[hs];show wpAny _ _ (spliced ((false,eval e X.env)::backTo b (starEach es X.env))) _ _ s;refine Calls.spliced_cons (cz (ha a s σ H _ I h) λu d ⟨x,H1,m,i,k⟩=>?_);exact cz (hr b a d σ H1 _ m k) λus s2 ⟨c,H2,l,g,j⟩=>⟨x::c,H2,l,.cons i g,j⟩
def EH(t:TA):TE:=λσ H Q=>t σ H λxs H1=>xs.length<=sizeLine/\∀p,H1 p=none->Q (.ref p) (aE H1 p (.tup xs))
def Dh(t:TA):TE:=λσ H Q=>t σ H λxs H1=>xs.length<=sizeLine/\∀p,H1 p=none->Q (.ref p) (aE H1 p (.lst xs))
theorem bO{x1}(h:PA X es t):PE X (.Tuple es x1 pos) (EH t):=by
 intro a s σ H Q I hq;refine wpAny_Tuple_spliced (cz (h pos a s σ H _ I hq) λus c ⟨g,H1,d,r,z,q⟩=>⟨by rw[<- r.length];exact z,?_⟩);have i:H1 c.heap.objs.size=none:=d.hok.fresh (K4 _);refine⟨.ref c.heap.objs.size,aE H1 c.heap.objs.size (.tup g),d.laid (t':=c.toks) (λb u e=>KC _ e) (K4 _) ?_,rfl,q _ i⟩;exact⟨z,us,r,⟨_,KJ _ rfl,rfl,_,rfl⟩⟩
theorem bw(h:PA X es t):PE X (.List es pos) (Dh t):=by
 intro a s σ H Q I hq;refine wpAny_List_spliced (cz (h pos a s σ H _ I hq) λus c ⟨g,H1,d,r,z,q⟩=>⟨by rw[<- r.length];exact z,?_⟩);have i:H1 c.heap.objs.size=none:=d.hok.fresh (K4 _);refine⟨.ref c.heap.objs.size,aE H1 c.heap.objs.size (.lst g),d.laid (t':=c.toks) (λb u e=>KC _ e) (K4 _) ?_,rfl,q _ i⟩;exact⟨z,us,0,r,KJ _ rfl⟩
end
abbrev Sp:=List V->Hp->VK->XK->Prop
abbrev j6:=List Env->Hp->Shared->XK->Value->Shared->Prop
structure oy(P:LH)(w:LK)(K:Ly)(mg:LF)(base:Heap)(A:LJ)(outer:List Env)(s:LB)(H:Hp):Prop where
 frames:A.frames=some outer
 mod:Mod K mg base
 bs:∀b o,base.get? b=some o->s.heap.get? b=some o/\H b=none
 bsz:base.objs.size<=s.heap.objs.size
 funs:s.heap.FunFrames base outer
 frf:∀b∈vW outer,H b=none
 hok:i4 P w H s.heap
 bare:AllBare s.gens
def CE(outer:List Env)(P:LH)(w:LK)(H:Hp)(s:LB)(Q:VK)(u:Value)(s':LB):Prop:=
 ∃v H',s'.os=s.os/\AllBare s'.gens/\Un (vW outer) [] H H' s.heap s'.heap/\i4 P w H' s'.heap/\bH v u/\Q v H'
def CR(CX:j6)(outer:List Env)(P:LH)(w:LK)(H:Hp)(s:LB)(Q:VK)(E:XK)(r:Result)(s':LB):Prop:=
 match r with
 | .ok (.ret u)=>CE outer P w H s Q u s'
 | .ok _=>False
 | .error e=>CX outer H s E e s'
structure bC(P:LH)(w:LK)(K:Ly)(mg:LF)(base:Heap)(CX:j6)(k:Nat)(f:Addr)(fd:LG)(ps:LI)(sp:Sp):Prop where
 len:∀vs H Q E,sp vs H Q E->vs.length=ps.length
 run:∀(A:LJ) (outer:List Env) (s:LB) (H:Hp) (args:Args) (us:LC) (vs:List V) (Q:VK) (E:XK),c8 k A->oy P w K mg base A outer s H->BindsTo s fd args (ps.zip us)->bx vs us->sp vs H Q E ->
  codeAny (model P w) A (.call (.ref f) args) (CR CX outer P w H s Q E) s
theorem bC.mono{K:Ly}{mg:LF}{base:Heap}{CX:j6}{k:Nat}{f:Addr}{ps:LI}{sp:Sp}(F:bC P w K mg base CX j f fd ps sp)(h:j<=k) :
  bC P w K mg base CX k f fd ps sp:=⟨F.len,λA outer s H args us vs Q E hr=>F.run A outer s H args us vs Q E (hr.mono h)⟩
theorem oy.make{K:Ly}{mg:LF}{base:Heap}{outer:List Env}(e:oy P w K mg base A outer s H)(C:Addr)(us:LC)(kw:List (Str×Value)) :
  oy P w K mg base (A.under (.builtin "type.__call__" ⟨.ref C::us,kw⟩)) outer s H:=⟨by first | exact e.frames | (simpa[Around.under,Code.envs,Code.isFrame,pushEnvs]using e.frames),e.mod,e.bs,e.bsz,e.funs,e.frf,e.hok,e.bare⟩
theorem oy.in1{K:Ly}{mg:LF}{base:Heap}{outer:List Env}(e:oy P w K mg base A outer s H) :
  oy P w K mg base A.in1 outer s H:=⟨e.frames,e.mod,e.bs,e.bsz,e.funs,e.frf,e.hok,e.bare⟩
section
variable {X:Cx}{pins:Lz}{σ:St}{H:Hp}{s s':LB}
theorem Inv.env0(I:Inv X pins σ H s):oy X.prog X.w X.K X.mg X.base X.A X.stack s H:=
 ⟨I.ok.frames,I.ok.mod,I.bs,K' I.ok.bsz I.sz,I.stack,I.stkFree,I.hok,I.bare⟩
theorem Inv.after(I:Inv X pins σ H s)(h:CE X.stack X.prog X.w H s Q u s'):EP X pins σ Q u s':=by
 obtain⟨v,j,os,a,un,e,r,q⟩:=h;obtain⟨i,g,d,t,c⟩:=s';obtain rfl:c=s.os:=os;exact⟨v,j,I.call (h':=i) (g':=g) (d':=d) (t':=t) (ch:=[]) un e a (λb z=>q0Q z (by simp)),r,q⟩
end
def l_(sp:Sp)(dvs:List V)(E:XK)(t:TA):TE:=λσ H Q=>t σ H λvs H1=>sp (vs++dvs) H1 Q E
def rm(C:Addr)(m:Str)(sp:Sp)(dvs:List V)(E:XK)(ta:TE)(t:TA):TE:=λσ H Q=>ta σ H λx H1=>∃a dx fs,x=.ref a/\H1 a=some (.ins C dx fs)/\fs.lookup m=none /\
 t σ H1 λvs H2=>sp (x::(vs++dvs)) H2 Q E
def ye(C:Addr)(sp:Sp)(dvs:List V)(E:XK)(t:TA):TE:=λσ H Q=>t σ H λvs H1=>∀x dx,H1 x=none->H1 dx=none->dx≠x ->
 sp (.ref x::(vs++dvs)) (aE (aE H1 dx (.own x)) x (.ins C dx [])) (λv H2=>v=.non/\Q (.ref x) H2) E
def dQ(K:Ly)(fd:LG)(ps:LI)(ds:LC):Prop:=
 ∀(s:LB) (us:LC),K.In s.heap->(us++ds).length=ps.length->BindsTo s fd ⟨us,[]⟩ (ps.zip (us++ds))
theorem dQ.all{K:Ly}{ps:LI}(h:∀us:List Value,us.length=ps.length->bindArgs fd ⟨us,[]⟩=pure (ps.zip us)):dQ K fd ps []:=λs us _ hl=>by
 rw[Lc]at hl ⊢;exact .of_eq (h us hl)
def dF(CX:j6)(X:Cx)(E:XK):Prop:=∀(pins:Lz) (σ:St) (H:Hp) (s:LB) (e:Value) (s':LB),Inv X pins σ H s->CX X.stack H s E e s'->X.xe e s'
section
variable {X:Cx}{CX:j6}{k:Nat}{f C:Addr}{fd:LG}{ps:LI}{sp:Sp}{dvs:List V}{ds:LC}{E:XK}{x m:Str}{p pos apos:Pos}{e o:Expr}{es:LM}{ta:TE}{t:TA}
theorem lv{pins:Lz}{σ:St}(F:bC X.prog X.w X.K X.mg X.base CX k f fd ps sp)(hr:c8 k X.A)(hb:dQ X.K fd ps ds)(hd:bx dvs ds)(hx:dF CX X E)
  (I:Inv X pins σ H s) (r:bx vs us) (h:sp (vs++dvs) H Q E):wpAny (model X.prog X.w) X.A (call (.ref f) us) (EP X pins σ Q) X.xe s:=by
 have b:bx (vs++dvs) (us++ds):=r.append hd;have d:(us++ds).length=ps.length:=by rw[<- b.length];exact F.len _ _ _ _ h
 refine wpAny_call (codeAny_mono (F.run X.A X.stack s H ⟨us,[]⟩ (us++ds) (vs++dvs) Q E hr I.env0 (hb s us I.kIn d) b h) λr c a=>?_);cases r with
 |error e=>exact hx pins σ H s e c I a
 |ok fl=>
  cases fl with
  |ret u=>exact I.after a
  |next=>exact False.elim a
  |brk=>exact False.elim a
  |cont=>exact False.elim a
theorem DF(F:bC X.prog X.w X.K X.mg X.base CX k f fd ps sp)(hr:c8 k X.A)(hg:Gl X x)(hm:X.mg x=some (.ref f))(hk:PySem.W.keepIn X.K (.ref f)=true)(hb:dQ X.K fd ps ds)(hd:bx dvs ds)(hx:dF CX X E)
  (ha:PA X (e::es) t) (hdb:autoParam ((x==("__debug__":Str))=false) zz1._auto_1) (he:autoParam (starEach (e::es) X.env=(false,eval e X.env)::starEach es X.env) zz0._auto_1) (hpl:autoParam ((backTo pos (starEach es X.env)).any (·.1)=false) zz0._auto_1) :
  PE X (.Call (.Name x p) (e::es) [] pos) (l_ sp dvs E t):=by
 intro a s σ H Q I h;refine wpAny_Call_Name_kw (m9 I hg hm ?_ hdb);refine PySem.W.callWith_K (h₀:=X.base) I.ok.mod.kin hk (cz (ha pos a s σ H _ I h) λus s1 ⟨vs,H1,b,r,q⟩=>⟨b.kIn,?_⟩) he hpl;exact lv F hr hb hd hx b r q
theorem CL{pl:Sem Bool}(he:PE X o ta)(c:jF X.K C)(hm:iI X.K C m f)(F:bC X.prog X.w X.K X.mg X.base CX k f fd ps sp)(hr:c8 k X.A)(hb:dQ X.K fd ps ds)(hd:bx dvs ds)(hx:dF CX X E)(ha:PA X (e::es) t)
  (hst:autoParam (starEach (e::es) X.env=(false,eval e X.env)::starEach es X.env) zz0._auto_1) (hpl:autoParam ((backTo pos (starEach es X.env)).any (·.1)=false) zz0._auto_1)
  (ht:autoParam (eval (.Call (.Attribute o m apos) (e::es) [] pos) X.env=(do
   let ov <- eval o X.env
   standAt apos.atName
   let (f,first) <- holding [ov] (getMethod ov m pl)
   callWith pos f first (backTo pos (starEach (e::es) X.env)) (backToKw pos (keywordEach [] X.env)))) zz0._auto_1) :
  PE X (.Call (.Attribute o m apos) (e::es) [] pos) (rm C m sp dvs E ta t):=by
 intro b s σ H Q I h;refine PySem.W.methodCall_KW (pl:=pl) (cz (he b s σ H _ I h) λu i ⟨x,H1,g,j,a,dx,fs,p,v,l,q⟩=>?_) ht;subst p;obtain rfl:u=Value.ref a:=j;refine fR g v c hm l ?_;refine PySem.W.callWith_K (first:=[.ref a]) (h₀:=X.base) I.ok.mod.kin hm.kp (cz (ha pos b i σ H1 _ g q) λus s2 ⟨vs,H2,d,r,n⟩=>⟨d.kIn,?_⟩) hst hpl;exact lv (us:=.ref a::us) (vs:=.ref a::vs) F hr hb hd hx d (.cons rfl r) n
theorem B8{pl:Sem Bool}(he:PE X o ta)(c:jF X.K C)(hm:iI X.K C m f)(F:bC X.prog X.w X.K X.mg X.base CX k f fd ps sp)(hr:c8 k X.A)(hb:dQ X.K fd ps ds)(hd:bx dvs ds)(hx:dF CX X E)
  (ht:autoParam (eval (.Call (.Attribute o m apos) [] [] pos) X.env=(do
   let ov <- eval o X.env
   standAt apos.atName
   let (f,first) <- holding [ov] (getMethod ov m pl)
   callWith pos f first (backTo pos (starEach [] X.env)) (backToKw pos (keywordEach [] X.env)))) zz0._auto_1) :
  PE X (.Call (.Attribute o m apos) [] [] pos) (rm C m sp dvs E ta om):=by
 intro b s σ H Q I h;refine PySem.W.methodCall_KW (pl:=pl) (cz (he b s σ H _ I h) λu s1 ⟨x,H1,d,e,a,dx,fs,g,i,l,q⟩=>?_) ht;subst g;obtain rfl:u=Value.ref a:=e;refine fR d i c hm l ?_;exact PySem.W.callWith_K0 (first:=[.ref a]) d.kIn hm.kp (lv (us:=[.ref a]) (vs:=[.ref a]) F hr hb hd hx d (.cons rfl .nil) q)
structure Mk(K:Ly)(C f:Addr):Prop where
 makes:PySem.W.makesIn K C=true
 init:PySem.W.findIn K (.ref C) "__init__"=some (some (.ref f))
 fn:PySem.W.isFn K (.ref f)=true
 kp:PySem.W.keepIn K (.ref C)=true
theorem Cl{pins:Lz}{σ:St}{Q:VK}(M:Mk X.K C f)(F:bC X.prog X.w X.K X.mg X.base CX k f fd ps sp)(hr:c8 (k+1) X.A)(hb:dQ X.K fd ps ds)(hd:bx dvs ds)
  (hx:dF CX X E) (I:Inv X pins σ H s) (r:bx vs us)
  (h:∀x dx,H x=none->H dx=none->dx≠x->sp (.ref x::(vs++dvs)) (aE (aE H dx (.own x)) x (.ins C dx [])) (λv H2=>v=.non/\Q (.ref x) H2) E) :
  wpAny (model X.prog X.w) X.A (call (.ref C) us) (EP X pins σ Q) X.xe s:=by
 have d:=h (s.heap.objs.size+1) s.heap.objs.size (I.hok.fresh (Nat.le_succ _)) (I.hok.fresh (K4 _)) (K0 (Lb _));have b:=Inv.made (C:=C) I;have c:bx (V.ref (s.heap.objs.size+1)::(vs++dvs)) (Value.ref (s.heap.objs.size+1)::(us++ds)):=.cons rfl (r.append hd);have l:(Value.ref (s.heap.objs.size+1)::us++ds).length=ps.length:=by
  have e:=c.length;rw[F.len _ _ _ _ d]at e;exact e.symm
 refine wpAny_call (A6 (f:=f) I.kIn M.makes M.init (beq_iff_eq.mp M.fn) (codeAny_mono (F.run _ X.stack _ _ ⟨Value.ref (s.heap.objs.size+1)::us,[]⟩ (Value.ref (s.heap.objs.size+1)::(us++ds)) _ _ E (hr.make C us [])
  (b.env0.make C us []) (hb _ (Value.ref (s.heap.objs.size+1)::us) b.kIn l) c d) λr g a=>?_))
 cases r with
 |error e=>exact hx pins σ _ _ e g b a
 |ok fl=>
  cases fl with
  |ret u=>
   obtain⟨v,o,n,i,m,j⟩:=b.after a;subst m;exact⟨i,⟨V.ref (s.heap.objs.size+1),o,n,rfl,j⟩⟩
  |next=>exact False.elim a
  |brk=>exact False.elim a
  |cont=>exact False.elim a
theorem Da(M:Mk X.K C f)(F:bC X.prog X.w X.K X.mg X.base CX k f fd ps sp)(hr:c8 (k+1) X.A)(hg:Gl X x)(hm:X.mg x=some (.ref C))(hb:dQ X.K fd ps ds)(hd:bx dvs ds)(hx:dF CX X E)
  (ha:PA X (e::es) t) (hdb:autoParam ((x==("__debug__":Str))=false) zz1._auto_1) (he:autoParam (starEach (e::es) X.env=(false,eval e X.env)::starEach es X.env) zz0._auto_1) (hpl:autoParam ((backTo pos (starEach es X.env)).any (·.1)=false) zz0._auto_1) :
  PE X (.Call (.Name x p) (e::es) [] pos) (ye C sp dvs E t):=by
 intro a s σ H Q I h;refine wpAny_Call_Name_kw (m9 I hg hm ?_ hdb);refine PySem.W.callWith_K (h₀:=X.base) I.ok.mod.kin M.kp (cz (ha pos a s σ H _ I h) λus s1 ⟨vs,H1,b,r,q⟩=>⟨b.kIn,?_⟩) he hpl;exact Cl M F hr hb hd hx b r q
end
def PK(X:Cx)(kws:List Keyword)(t:TA):Prop:=
 ∀(pos:Pos) (pins:Lz) (s:LB) (σ:St) (H:Hp) (Q:List V->Hp->Prop),Inv X pins σ H s->t σ H Q->wpAny (model X.prog X.w) X.A (evalAll ((backToKw pos (keywordEach kws X.env)).map (·.2))) (AP X pins σ Q) X.xe s
section
variable {X:Cx}{CX:j6}{k:Nat}{f C:Addr}{fd:LG}{ps ks:LI}{sp:Sp}{E:XK}{x m:Str}{p pos apos kpos:Pos}{e o:Expr}{es:LM}{kws:List Keyword}{te ta:TE}{t tk:TA}{nm:Option Str}
theorem Ez:PK X [] om:=λ_ _ _ _ H Q I h=>wpAny_evalAll_nil ⟨[],H,I,.nil,h⟩
theorem CN(ha:PE X e te)(hr:PK X kws t):PK X (⟨nm,e,kpos⟩::kws) (jB te t):=by
 intro b a s σ H Q I h;show wpAny _ _ (evalAll ((do let v <- eval e X.env;standAt b;pure v)::(backToKw b (keywordEach kws X.env)).map (·.2))) _ _ s;refine wpAny_evalAll_cons (q04 (cz (ha a s σ H _ I h) λu d ⟨x,H1,m,i,k⟩=>q04 (wpAny_standAt (q05 ?_))));exact cz (hr b a d σ H1 _ m k) λus s2 ⟨c,H2,l,g,j⟩=>⟨x::c,H2,l,.cons i g,j⟩
variable {g:List Value->List Value->List Value}{gV:List V->List V->List V}
end
structure aI(N P:LI)(sc:Scope):Prop where
 kind:sc.kind=.function
 co:sc.isCoroutine=false
 gen:sc.isGenerator=false
 nd:N.Nodup
 pre:N.take P.length=P
 par:∀x∈P,sc.names.lookup x=some .local\/sc.names.lookup x=some .cell
 nofree:∀y∈sc.names,y.2≠.free
theorem qz{kindOf:Str->Option NameKind}{x:Str}:∀{binds:List (Str×Value)} {m:LF},(∀v,(x,v)∉binds)->bindL kindOf binds m x=m x
 | [],_,_=>rfl
 | (n,v)::r,m,h=>by
  unfold bindL;rw[qz λw hw=>h w (KW _ hw)]
  split
  ·have:x≠n:=by rintro rfl;exact h v q0B
   simp[this]
  ·rfl
theorem q8{kindOf:Str->Option NameKind}{x:Str}:∀{binds:List (Str×Value)} {m:LF},(∀v,(x,v)∉binds)->bindC kindOf binds m x=m x
 | [],_,_=>rfl
 | (n,v)::r,m,h=>by
  unfold bindC;rw[q8 λw hw=>h w (KW _ hw)]
  split
  ·rfl
  ·have:x≠n:=by rintro rfl;exact h v q0B
   simp[this]
theorem qZ{kindOf:Str->Option NameKind}{x:Str}{v:Value}:∀{P:LI} {vs:LC} {i:Nat} {m:LF},P.Nodup->P[i]?=some x->vs[i]?=some v->kindOf x=some .local ->
  bindL kindOf (P.zip vs) m x=some v
 | [],_,_,_,_,h,_,_=>by simp at h
 |_::_,[],_,_,_,_,h,_=>by simp at h
 |p::P,w::vs,0,m,nd,h1,h2,hk=>by
  simp at h1 h2;subst h1;subst h2
  show bindL kindOf ((p,w)::P.zip vs) m p=_;unfold bindL;rw[qz λv hv=>(List.nodup_cons.mp nd).1 (List.of_mem_zip hv).1,q07 hk];simp
 |p::P,w::vs,i+1,m,nd,h1,h2,hk=>by
  show bindL kindOf ((p,w)::P.zip vs) m x=_;unfold bindL;exact qZ (i:=i) (List.nodup_cons.mp nd).2 (by simpa using h1) (by simpa using h2) hk
theorem qP{kindOf:Str->Option NameKind}{x:Str}{v:Value}:∀{P:LI} {vs:LC} {i:Nat} {m:LF},P.Nodup->P[i]?=some x->vs[i]?=some v->kindOf x≠some .local ->
  bindC kindOf (P.zip vs) m x=some v
 | [],_,_,_,_,h,_,_=>by simp at h
 |_::_,[],_,_,_,_,h,_=>by simp at h
 |p::P,w::vs,0,m,nd,h1,h2,hk=>by
  simp at h1 h2;subst h1;subst h2
  show bindC kindOf ((p,w)::P.zip vs) m p=_;unfold bindC;rw[q8 λv hv=>(List.nodup_cons.mp nd).1 (List.of_mem_zip hv).1,q06 hk];simp
 |p::P,w::vs,i+1,m,nd,h1,h2,hk=>by
  show bindC kindOf ((p,w)::P.zip vs) m x=_;unfold bindC;exact qP (i:=i) (List.nodup_cons.mp nd).2 (by simpa using h1) (by simpa using h2) hk
def start(N:LI)(vs:List V):St:=vs.map some++List.replicate (N.length-vs.length) none
def uS(CX:j6)(P:LH)(w:LK)(K:Ly)(mg:LF)(base:Heap)(N:LI)(qual:Str)(scope:Scope)(f:Addr)(cd:Value)(A:LJ)(outer:List Env)(s:LB)(H:Hp)(E:XK):Cx where
 prog:=P
 w:=w
 K:=K
 mg:=mg
 base:=base
 A:=A.deeper (envOfC qual scope s.heap.objs.size f cd)
 N:=N
 s₀:=s
 H₀:=H
 env:=envOfC qual scope s.heap.objs.size f cd
 outer:=outer
 stack:=envOfC qual scope s.heap.objs.size f cd::outer
 ex:=[]
 calm:=true
 fn:=λ_=>true
 pn:=[]
 xe:=λe s'=>wpAny (model P w) (A.deeper (envOfC qual scope s.heap.objs.size f cd)) (leaving (envOfC qual scope s.heap.objs.size f cd) e) (λ_ s''=>CX outer H s E e s'') (λe' s''=>CX outer H s E e' s'') s'
theorem vd{sc:Scope}(h:sc.names.lookup x=some .cell):∃c,(cellsFrom n sc.names []).lookup x=some c:=by
 have q:=PySem.W.cellsFrom_some sc.names n [] (.inl h);exact Option.isSome_iff_exists.mp q
theorem zR{CX:j6}{K:Ly}{mg:LF}{base:Heap}{ps:LI}{qual:Str}{scope:Scope}{f:Addr}{cd:Value}{A:LJ}{outer:List Env}{s1:LB}{vs:List V}
  (S:aI N ps scope) (hd:A.handled=none) (e0:oy P w K mg base A outer s H) (hl:vs.length=ps.length) (r:bx vs us)
  (x:InCallC s s.heap.objs.size (bindL (envOfC qual scope s.heap.objs.size f cd).kindOf (ps.zip us) λ_=>none) (cellsFrom (s.heap.objs.size+1) scope.names []) (bindC (envOfC qual scope s.heap.objs.size f cd).kindOf (ps.zip us) λ_=>none) s1) :
  Inv (uS CX P w K mg base N qual scope f cd A outer s H E) [] (start N vs) H s1:=by
 have hpl:ps.length<=N.length:=by have:=q0R List.length S.pre;rw[Lg]at this;omega
 obtain⟨h1,tk,rfl,o⟩:=x.done;have d:∀b:Addr,b∉(uS CX P w K mg base N qual scope f cd A outer s H E).ex:=λb z=>q0Q (show b∈([]:List Addr) from z) (by simp);refine⟨⟨e0.mod,S.kind,rfl,rfl,K4 _,λy z c h1 h2=>?_,λy hy=>?_,λy c _ h=>?_,λ_=>hd,Around.frames_deeper e0.frames,.inr ⟨rfl,rfl⟩,λb z=>q0Q z (d b),e0.bs,e0.bsz,λb _ _=>d b,λb z=>q0Q z (d b),e0.funs,e0.frf⟩,
  rfl,e0.bare,Un.kept o,⟨_,x.toInCall.ns,λi y v h1 h2 h3=>?_⟩,λy c h=>⟨_,x.cell y c h⟩,e0.hok.fresh (K4 _),λy c h=>?_,λp j=>q0Q (show p∈([]:List (Addr×Obj)) from j) (by simp),e0.hok.kept o,?_⟩
 ·exact name_of_addr x.apart (PySem.mem_of_lookup h1) (PySem.mem_of_lookup h2)
 ·have hy:scope.names.lookup y=some .cell\/scope.names.lookup y=some .free:=hy
  rcases hy with hy | hy
  ·exact vd hy
  ·exact q0Q rfl (S.nofree _ (PySem.mem_of_lookup hy))
 ·exact q0P (x.above y c (PySem.mem_of_lookup h))
 ·have l:i<vs.length:=by
   unfold start at h2
   by_cases l:i<vs.length
   ·exact l
   ·rw[K1 (by simpa using l)]at h2
    rw[List.getElem?_replicate]at h2
    split at h2<;>cases h2
  have C:vs[i]?=some v:=by
   unfold start at h2;rw[K2 (by simpa using l),KG]at h2;cases e:vs[i]? with
   |none=>rw[e]at h2;cases h2
   |some a=>rw[e]at h2;cases h2;rfl
  obtain⟨u,m,B⟩:=r.get C;have j:ps[i]?=some y:=by
   rw[<- S.pre,List.getElem?_take_of_lt ⋯];exact h1
  have g:ps.Nodup:=by rw[<- S.pre];exact S.nd.sublist (List.take_sublist _ _)
  refine⟨u,B,?_⟩;rcases S.par y (KH j) with k | k
  ·exact .inl ⟨k,qZ g j m k⟩
  ·obtain⟨c,e⟩:=vd (n:=s.heap.objs.size+1) k
   refine .inr ⟨.inl k,c,e,?_⟩;have q:=x.cell y c e;rw[qP g j m (by show scope.names.lookup y≠_;rw[k];decide)]at q;exact q
 ·exact e0.hok.fresh (q0P (x.above y c (PySem.mem_of_lookup h)))
 ·unfold start
  show _=N.length;rw[K3,KD,List.length_replicate];omega
theorem Gz{CX:j6}{K:Ly}{mg:LF}{base:Heap}{f:Addr}{name qual:Str}{params:Arguments}{body:List Stmt}{scope:Scope}{dV kV doc pm cdv ct oc:Value}{an od:LL}
  {osl:Array (Option Value)}{ps:LI} {sp:Sp} (lk:K.lookup f=some ⟨oc,od,.func (PySem.W.fnOf name qual params body scope dV kV doc pm an cdv ct),osl⟩) (hcd:PySem.W.codeIn K cdv qual=true) (S:aI N ps scope)
  (len:∀vs H Q E,sp vs H Q E->vs.length=ps.length)
  (hbody:∀(A:LJ) (outer:List Env) (s:LB) (H:Hp) (vs:List V) (Q:VK) (E:XK),c8 k (A.deeper (envOfC qual scope s.heap.objs.size f cdv))->sp vs H Q E ->
   ∃t,xu (uS CX P w K mg base N qual scope f cdv A outer s H E) body t/\t {nx:=λ_ H'=>Q .non H',rt:=Q} (start N vs) H) :
  bC P w K mg base CX (k+1) f (PySem.W.fnOf name qual params body scope dV kV doc pm an cdv ct) ps sp:=by
 refine⟨len,λA outer s H args z vs Q E hr g M r d=>?_⟩;have G:=len _ _ _ _ d;have p:K.In s.heap:=g.mod.kin.keeps λb o e=>(g.bs b o e).1;have l:s.heap.NoLimit:=g.mod.nolimit.keeps λb o e=>(g.bs b o e).1;have a:∀y∈ps.zip z,scope.names.lookup y.1=some .local\/(scope.names.lookup y.1=some .cell/\((cellsFrom (s.heap.objs.size+1) scope.names []).lookup y.1).isSome=true):=λ⟨n,v⟩ B=>by
  rcases S.par n (List.of_mem_zip B).1 with q | q
  ·exact .inl q
  ·exact .inr ⟨q,PySem.W.cellsFrom_some _ _ _ (.inl q)⟩
 refine codeAny_call_function hr.depth (p _ _ lk) rfl S.co S.gen rfl (PySem.W.codeRec_of p hcd) (M _ _ _ _ ?_);refine wpAny_newFunctionEnv_cells S.kind a λenv L m x=>?_;subst L;refine⟨l.keeps x.toInCall.keep,codeAny_func ?_⟩;obtain⟨t,C,D⟩:=hbody A outer s H vs Q E (hr.deeper _) d;have I:Inv (uS CX P w K mg base N qual scope f cdv A outer s H E) [] (start N vs) H m:=zR S hr.hd g G r x;refine q0X (C [] m (start N vs) H _ I D) (λO i c=>?_) λe i c=>c;have fin:∀{σ':St} {H':Hp} {v:V} {u:Value},Inv (uS CX P w K mg base N qual scope f cdv A outer s H E) [] σ' H' i->bH v u->Q v H'->CE outer P w H s Q u i:=
  fun{σ' H' v u} J j q=>⟨v,H',J.os,J.bare,J.base,J.hok,j,q⟩
 cases O with
 |ret u=>
  obtain⟨v,σ',H',J,j,q⟩:=c;exact fin J j q
 |next=>
  obtain⟨σ',H',J,q⟩:=c;exact fin (v:=V.non) (u:=Value.none) J rfl q
 |brk=>
  obtain⟨_,_,_,q⟩:=c;exact False.elim q
 |cont=>
  obtain⟨_,_,_,q⟩:=c;exact False.elim q
section
variable {X:Cx}{x:Str}{p pos:Pos}{e:Expr}{es:LM}{t:TA}{id T:String}{r:List V->Hp->VK->Prop}
def GN(r:List V->Hp->VK->Prop)(t:TA):TE:=λσ H Q=>t σ H λvs H1=>r vs H1 Q
theorem aB(hc:d0 X (.builtin id) r)(hg:Gl X x)(hm:X.mg x=none)(hv:bootBuiltins x=some (.builtin id))(ha:PA X (e::es) t)(hn:autoParam (x≠"__name__") zz1._auto_1)(hdb:autoParam ((x==("__debug__":Str))=false) zz1._auto_1)
  (he:autoParam (starEach (e::es) X.env=(false,eval e X.env)::starEach es X.env) zz0._auto_1) (hpl:autoParam ((backTo pos (starEach es X.env)).any (·.1)=false) zz0._auto_1):PE X (.Call (.Name x p) (e::es) [] pos) (GN r t):=by
 intro a s σ H Q I h;refine wpAny_Call_Name_kw (eV I hg hm hv ?_ hn hdb);exact PyProof.Rows.callWith_builtin1 (cz (ha pos a s σ H _ I h) λus b ⟨vs,H1,g,c,d⟩=>hc a b σ H1 vs us Q g c d) he hpl
theorem cV(hc:d0 X (.type T) r)(hg:Gl X x)(hm:X.mg x=none)(hv:bootBuiltins x=some (.type T))(ha:PA X (e::es) t)(hn:autoParam (x≠"__name__") zz1._auto_1)(hdb:autoParam ((x==("__debug__":Str))=false) zz1._auto_1)
  (he:autoParam (starEach (e::es) X.env=(false,eval e X.env)::starEach es X.env) zz0._auto_1) (hpl:autoParam ((backTo pos (starEach es X.env)).any (·.1)=false) zz0._auto_1):PE X (.Call (.Name x p) (e::es) [] pos) (GN r t):=by
 intro a s σ H Q I h;refine wpAny_Call_Name_kw (eV I hg hm hv ?_ hn hdb);exact PyProof.Rows.callWith_type1 (cz (ha pos a s σ H _ I h) λus b ⟨vs,H1,g,c,d⟩=>hc a b σ H1 vs us Q g c d) he hpl
end
end L2
namespace HT
open PySem PyProof.Rows
section
variable {prog:LH}{w:LK}{A:LJ}{E:Lx}{s:LB}
def sIx(n d:Nat):Option Int->Nat
 |none=>d
 |some v=>if v<0 then(v+(n:Int)).toNat else min v.toNat n
theorem sIx_none(n d:Nat):sIx n d none=d:=rfl
theorem sIx_nat(n d k:Nat):sIx n d (some (k:Int))=min k n:=by
 show(if(k:Int)<0 then((k:Int)+(n:Int)).toNat else min (k:Int).toNat n)=min k n;rw[q06 ⋯,KN]
theorem sIx_le(n d:Nat)(hd:d<=n)(o:Option Int):sIx n d o<=n:=by
 cases o with
 |none=>exact hd
 |some v=>
  show(if v<0 then(v+(n:Int)).toNat else min v.toNat n)<=n
  by_cases a:v<0
  ·rw[q07 a];omega
  ·rw[q06 a];exact Nat.min_le_right _ _
end
end HT
namespace L2
open PySem PySem.Spec PyProof.Rows
abbrev TO:=St->Hp->(Option Int->Hp->Prop)->Prop
def PO(X:Cx)(e:Option Expr)(t:TO):Prop:=
 ∀(pins:Lz) (s:LB) (σ:St) (H:Hp) (Q:Option Int->Hp->Prop),Inv X pins σ H s->t σ H Q ->
  wpAny (model X.prog X.w) X.A (evalPart e X.env) (λu s'=>∃o H',Inv X pins σ H' s'/\IsPart u o/\Q o H') X.xe s
def rH:TO:=λ_ H Q=>Q none H
def Au(t:TE):TO:=λσ H Q=>t σ H λx H1=>∃i,x=.int i/\Q (some i) H1
section
variable {X:Cx}{e:Expr}{te:TE}{lo hi:Option Expr}{tl th:TO}{pos p2:Pos}
theorem fX:PO X none rH:=by
 intro pins s σ H Q I h;rw[evalPart_none];exact q05 ⟨none,H,I,.none,h⟩
theorem cS(h:PE X e te):PO X (some e) (Au te):=by
 intro a s σ H Q I hw;rw[evalPart_some];refine cz (h a s σ H _ I hw) λu s1 ⟨x,H1,d,b,c⟩=>?_;obtain⟨i,rfl,q⟩:=c;obtain⟨t,rfl⟩:=b;exact⟨some i,H1,d,.int i t,q⟩
def HG(X:Cx)(r:V->Option Int->Option Int->Hp->VK->Prop):Prop:=
 ∀(pins:Lz) (s:LB) (σ:St) (H:Hp) (x:V) (v vl vu:Value) (lo hi:Option Int) (sl:Addr) (Q:VK),Inv X pins σ H s->bH x v->s.heap.IsSliceOf sl vl vu .none->IsPart vl lo->IsPart vu hi->r x lo hi H Q ->
  ∃T id,typeLookup (.type T) "__getitem__"=pure (some (.builtin id))/\s.TypeIs v T/\wpAny (model X.prog X.w) X.A (getItem v (.ref sl)) (EP X pins σ Q) X.xe s
def G4(r:V->Option Int->Option Int->Hp->VK->Prop)(te:TE)(tl th:TO):TE:=λσ H Q=>te σ H λx H1=>tl σ H1 λl H2=>th σ H2 λu H3=>r x l u H3 Q
theorem cY(hr:HG X r)(he:PE X e te)(hl:PO X lo tl)(hu:PO X hi th):PE X (.Subscript e (.Slice lo hi none p2) pos) (G4 r te tl th):=by
 intro a s σ H Q I h;refine Subscript_ (cz (he a s σ H _ I h) λv i ⟨x,H1,J,j,n⟩=>?_);refine wpAny_Slice (cz (hl a i σ H1 _ J n) λvl g ⟨l,H2,G,p,m⟩=>cz (hu a g σ H2 _ G m) λvu c ⟨u,d,D,o,k⟩=>?_);rw[evalPart_none];refine q05 ?_;have C:Inv X a σ d {c with heap:=c.heap.push {cls:=.type "slice",data:=.fields #[vl,vu,.none]} }:=D.kept (t':=c.toks) λb ob q=>KC _ q;obtain⟨T,id,B,y,z⟩:=hr a {c with heap:=c.heap.push {cls:=.type "slice",data:=.fields #[vl,vu,.none]} } σ d x v vl vu l u c.heap.objs.size Q C j (Heap.IsSliceOf.new ..) p o k;show wpAny (model X.prog X.w) X.A (subscriptTail e (.Slice lo hi none p2) v (.ref c.heap.objs.size)) (EP X a σ Q) X.xe {c with heap:=c.heap.push {cls:=.type "slice",data:=.fields #[vl,vu,.none]} };exact tail_any (ops:=[.ref c.heap.objs.size,v]) y B z (by with_unfolding_all rfl)
def ju(xs:List V)(lo hi:Option Int):List V:=(xs.drop (HT.sIx xs.length 0 lo)).take (HT.sIx xs.length xs.length hi-HT.sIx xs.length 0 lo)
theorem va(xs:List V)(lo hi:Option Int):(ju xs lo hi).length<=xs.length:=by
 unfold ju;rw[Lg,Lh];omega
end
def FD(n:Nat)(i:Int):Option Nat:=if 0<=i then(if i<n then some i.toNat else none) else if -(n:Int)<=i then some (i+n).toNat else none
def iG{α:Type}(xs:List α)(i:Int):Option α:=(FD xs.length i).bind λj=>xs[j]?
theorem Dj{n:Nat}{j:Nat}(h:FD n i=some j):seqIndex? i n=some j/\j<n/\-(n:Int)<=i/\i<n:=by
 unfold FD at h
 by_cases a:0<=i
 ·rw[q07 a]at h
  by_cases h1:i<n
  ·rw[q07 h1]at h
   have e:i.toNat=j:=q0S h;exact⟨by rw[seqIndex_of a h1,e],⋯,⋯,h1⟩
  ·rw[q06 h1]at h;cases h
 ·rw[q06 a]at h
  by_cases h1:-(n:Int)<=i
  ·rw[q07 h1]at h
   have e:(i+n).toNat=j:=q0S h;exact⟨by rw[seqIndex_neg ⋯ h1,e],⋯,h1,⋯⟩
  ·rw[q06 h1]at h;cases h
theorem sK{α:Type}{xs:List α}{v:α}(h:iG xs i=some v):∃j,seqIndex? i xs.length=some j/\xs[j]?=some v/\j<xs.length/\-(xs.length:Int)<=i/\i<xs.length:=by
 unfold iG at h;cases e:FD xs.length i with
 |none=>rw[e]at h;cases h
 |some j=>
  rw[e]at h;obtain⟨h1,h2,b,a⟩:=Dj e;exact⟨j,h1,h,h2,b,a⟩
theorem bI{α:Type}{xs:List α}{j:Nat}{v:α}(h:xs[j]?=some v):iG xs (j:Int)=some v:=by
 have hj:j<xs.length:=(KA.mp h).1;have e:FD xs.length (j:Int)=some j:=by
  unfold FD;rw[q07 ⋯,q07 ⋯];simp
 unfold iG;rw[e];exact h
def Dd(b:Expr):Prop:=∀o i,subscripted b false o i=operate [o,i] (getItem o i)
def Fk(X:Cx)(r:R2):Prop:=
 ∀(value slice:Expr) (pins:Lz) (s:LB) (σ:St) (H:Hp) (x y:V) (v u:Value) (Q:VK),Inv X pins σ H s->bH x v->bH y u->r x y H Q ->
  subscripted slice false v u=operate [v,u] (getItem v u)->wpAny (model X.prog X.w) X.A (subscriptTail value slice v u) (EP X pins σ Q) X.xe s
def Ho(X:Cx)(id:String)(r:V->List V->Hp->VK->Prop):Prop:=
 ∀(pins:Lz) (s:LB) (σ:St) (H:Hp) (x:V) (xs:List V) (v:Value) (us:LC) (Q:VK),Inv X pins σ H s->bH x v->bx xs us->r x xs H Q ->
  wpAny (model X.prog X.w) X.A (call (.builtin id) (v::us)) (EP X pins σ Q) X.xe s
section
variable {X:Cx}{a b:Expr}{ta tb:TE}{pos:Pos}
theorem aY(hr:Fk X r)(ha:PE X a ta)(hb:PE X b tb)(hs:Dd b):PE X (.Subscript a b pos) (Et r ta tb):=by
 intro c s σ H Q I h;exact Subscript_ (Fd ha hb I h λv u d x y H2 i g e q=>hr a b c d σ H2 x y v u Q i g e q (hs _ _))
def zw(K:Ly):R2:=λx y H Q=>∃p xs i v,x=.ref p/\y=.int i/\aN K H p xs/\iG xs i=some v/\Q v H
def Br(K:Ly):R2:=λx y H Q=>∃p xs i v,x=.ref p/\y=.int i/\dO K H p xs/\iG xs i=some v/\Q v H
def Ex:R2:=λx y H Q=>∃z i c,x=.str z/\y=.int i/\z.length<=sizeLine/\iG z.cps.toList i=some c/\Q (.str ⟨#[c]⟩) H
theorem rC:Fk X (zw X.K):=by
 intro value slice a s σ H x y v u Q I rx ry h hs;obtain⟨p,xs,i,z,rfl,rfl,m,o,q⟩:=h;cases rx;obtain⟨t,rfl⟩:=ry;obtain⟨d,r,c,hz⟩:=I.list m;obtain⟨j,h1,h2,h3,C,B⟩:=sK o;obtain⟨w,k,b⟩:=r.get h2;have n:=r.length;have hn:=nn;have fin:EP X a σ Q w s:=⟨z,H,I,b,q⟩
 by_cases g:0<=i
 ·have e:i.toNat=j:=by
   rw[seqIndex_of g B]at h1;exact q0S h1
  exact item_listR c.isList g ⋯ (by rw[e];simpa using k) fin hs
 ·have e:(i+(d.toArray.size:Int)).toNat=j:=by
   rw[seqIndex_neg ⋯ C]at h1;rw[KL,<- n];exact q0S h1
  exact subscriptTail_builtinR (x:=w) c.isList.typeIs slot_list_getitem.lookup
   (wpAny_getItem_list_neg (Q:=λr l=>r=w/\EP X a σ Q r l) c.isList ⋯ (by rw[KL]<;>omega) ⋯ (by rw[e];simpa using k) ⟨rfl,fin⟩) hs
theorem EL:Fk X (Br X.K):=by
 intro value slice a s σ H x y v u Q I rx ry h hs;obtain⟨p,xs,i,z,rfl,rfl,e,k,q⟩:=h;cases rx;obtain⟨t,rfl⟩:=ry;obtain⟨its,r,c,hz⟩:=I.tuple e;obtain⟨j,h1,h2,h3,h4,h5⟩:=sK k;obtain⟨w,l,b⟩:=r.get h2;have g:=r.length;have hn:=nn;have fin:EP X a σ Q w s:=⟨z,H,I,b,q⟩;exact subscriptTail_builtinR (x:=w) c.typeIs slot_tuple_getitem.lookup
  (getItem_tuple (j:=j) (Q:=λr d=>r=w/\EP X a σ Q r d) c ⋯ ⋯ (by rw[KL,<- g];exact h1) (by simpa using l) ⟨rfl,fin⟩) hs
theorem nB:Fk X Ex:=by
 intro value slice pins s σ H x y v u Q I rx ry h hs;obtain⟨z,i,c,rfl,rfl,hz,b,q⟩:=h;obtain⟨t,rfl⟩:=rx;obtain⟨t',rfl⟩:=ry;obtain⟨j,h1,h2,h3,e,d⟩:=sK b;have a:z.cps.toList.length=z.length:=by simp[Str.length]
 rw[a]at h1 e d;have hn:=nn;exact tail_any (typeIs_str s z t) slot_str_getitem.lookup (getItem_str (c:=c) (by
  have k:decide (i < -(2 ^ 63:Int))=false:=q08 ⋯;have g:decide (i≥2 ^ 63)=false:=q08 ⋯;rw[k,g,Bool.or_false]) (by rw[h1];simpa using h2) ⟨.str ⟨#[c]⟩,H,I.tok _,⟨_,rfl⟩,q⟩) hs
theorem tU(lo hi:Option Int)(n:Nat):(sliceBounds lo hi none n).1=((HT.sIx n 0 lo:Nat):Int)/\(sliceBounds lo hi none n).2.1=((HT.sIx n n hi:Nat):Int)/\(sliceBounds lo hi none n).2.2=1:=by
 refine⟨?_,?_,rfl⟩
 ·cases lo with
  |none=>simp[sliceBounds,HT.sIx]
  |some i=>
   simp only[sliceBounds,HT.sIx,Option.getD_none,show(1:Int)>0 by decide,if_true]
   by_cases h:i<0
   ·simp only[h,if_true]<;>omega
   ·simp only[h,if_false]<;>omega
 ·cases hi with
  |none=>simp[sliceBounds,HT.sIx]
  |some i=>
   simp only[sliceBounds,HT.sIx,Option.getD_none,show(1:Int)>0 by decide,if_true]
   by_cases h:i<0
   ·simp only[h,if_true]<;>omega
   ·simp only[h,if_false]<;>omega
theorem pS(its:LC)(lo hi:Option Int):slicePick its.toArray lo hi none=((its.drop (HT.sIx its.length 0 lo)).take (HT.sIx its.length its.length hi-HT.sIx its.length 0 lo)).toArray:=by
 obtain⟨h1,h2,a⟩:=tU lo hi its.toArray.size;unfold slicePick;rw[h1,h2,a];simp only[sliceRange_one,pick_run,KL]<;>rfl
def EC(K:Ly):V->Option Int->Option Int->Hp->VK->Prop:=λx lo hi H Q=>∃a xs,x=.ref a/\aN K H a xs/\∀p,H p=none->Q (.ref p) (aE H p (.lst (ju xs lo hi)))
theorem jf:HG X (EC X.K):=by
 intro pins s σ H x v vl vu lo hi sl Q I rx hs pl pu h;obtain⟨a,c,rfl,i,q⟩:=h;cases rx;obtain⟨its,r,e,g⟩:=I.list i;have d:=r.length;refine⟨"list",_,slot_list_getitem.lookup,e.isList.typeIs,?_⟩;refine wpAny_getItem_list_slice e.isList hs pl pu .none (by simp) ?_ (by rw[KL]<;>omega);rw[pS,<- d];refine⟨.ref s.heap.objs.size,_,I.laid (t':=s.toks) (o:=.lst (ju c lo hi)) (λb ob q=>KC _ q) (K4 _) ?_,rfl,q _ (I.hok.fresh (K4 _))⟩;exact⟨K' (va c lo hi) g,_,0,(r.drop (HT.sIx c.length 0 lo)).take (HT.sIx c.length c.length hi-HT.sIx c.length 0 lo),KJ _ rfl⟩
def uh:V->Bool
 | .non=>true
 | .bl _=>true
 | .int _=>true
 | .str _=>true
 |_=>false
def Cy:V->V->Bool
 | .non,.non=>true
 | .bl a,.bl b=>a==b
 | .bl a,.int b=>(if a then 1 else 0)==b
 | .int a,.bl b=>a==(if b then 1 else 0)
 | .int a,.int b=>a==b
 | .str a,.str b=>a==b
 |_,_=>false
theorem gz(ry:bH y u)(rx:bH x v)(fy:uh y=true)(fx:uh x=true):SeqAt.EqAt A s u v (Cy y x):=by
 cases y with
 |non=>
  cases ry;cases x with
  |non=>cases rx;exact SeqAt.EqAt.same _
  |bl b=>cases rx;exact SeqAt.EqAt.none_bool b
  |int b=>obtain⟨t,rfl⟩:=rx;exact SeqAt.EqAt.none_int b t
  |str b=>obtain⟨t,rfl⟩:=rx;exact SeqAt.EqAt.none_str b t
  |_=>exact q0Q (show false=true from fx) K6
 |bl a=>
  cases ry;cases x with
  |non=>cases rx;exact SeqAt.EqAt.bool_none a
  |bl b=>cases rx;exact SeqAt.EqAt.bool_bool a b
  |int b=>obtain⟨t,rfl⟩:=rx;exact SeqAt.EqAt.bool_int a b t
  |str b=>obtain⟨t,rfl⟩:=rx;exact SeqAt.EqAt.bool_str a b t
  |_=>exact q0Q (show false=true from fx) K6
 |int a=>
  obtain⟨c,rfl⟩:=ry;cases x with
  |non=>cases rx;exact SeqAt.EqAt.int_none a c
  |bl b=>cases rx;exact SeqAt.EqAt.int_bool a c b
  |int b=>obtain⟨t,rfl⟩:=rx;exact SeqAt.EqAt.int_int a c b t
  |str b=>obtain⟨t,rfl⟩:=rx;exact SeqAt.EqAt.int_str a c b t
  |_=>exact q0Q (show false=true from fx) K6
 |str a=>
  obtain⟨c,rfl⟩:=ry;cases x with
  |non=>cases rx;exact SeqAt.EqAt.str_none a c
  |bl b=>cases rx;exact SeqAt.EqAt.str_bool a c b
  |int b=>obtain⟨t,rfl⟩:=rx;exact SeqAt.EqAt.str_int a c b t
  |str b=>obtain⟨t,rfl⟩:=rx;exact SeqAt.EqAt.str_str a c b t
  |_=>exact q0Q (show false=true from fx) K6
 |_=>exact q0Q (show false=true from fy) K6
theorem kD:d0 X (.builtin "len") (λxs H Q=>∃p ys,xs=[.ref p]/\(aN X.K H p ys\/dO X.K H p ys)/\Q (.int ys.length) H):=by
 intro pins s σ H xs us Q I r h;obtain⟨p,ys,rfl,hq,q⟩:=h;obtain⟨u,rfl,e⟩:=mw r;cases e;have hn:=nn;rcases hq with hq | hq
 ·obtain⟨d,b,c,g⟩:=I.list hq
  have a:=b.length;exact Calls.call_len_list c.isList (by simp only[KL]<;>omega) ⟨.int ys.length,H,I.tok _,⟨s.toks+1,by rw[KL,a]⟩,q⟩
 ·obtain⟨d,b,c,g⟩:=I.tuple hq
  have a:=b.length;exact len_tuple c (by simp only[KL]<;>omega) ⟨.int ys.length,H,I.tok _,⟨s.toks+1,by rw[KL,a]⟩,q⟩
theorem bi:d0 X (.builtin "len") (λxs H Q=>∃z,xs=[.str z]/\z.length<=sizeLine/\Q (.int z.length) H):=by
 intro pins s σ H xs us Q I r h;obtain⟨z,rfl,hz,q⟩:=h;obtain⟨u,rfl,t,rfl⟩:=mw r;have hn:=nn;exact len_str ⋯ ⟨.int z.length,H,I.tok _,⟨_,rfl⟩,q⟩
theorem cN:d0 X (.type "list") (λxs H Q=>∃p ys,xs=[.ref p]/\(aN X.K H p ys\/dO X.K H p ys)/\∀l,H l=none->Q (.ref l) (aE H l (.lst ys))):=by
 intro i s σ H xs us Q I r h;obtain⟨p,ys,rfl,hq,q⟩:=h;obtain⟨u,rfl,z⟩:=mw r;cases z;have fin:∀(a:LC),bx ys a->ys.length<=sizeLine->∀(c:Heap) (g:Nat),(∀b o',s.heap.get? b=some o'->c.get? b=some o') ->
   c.get? s.heap.objs.size=some {cls:=.type "list",dict:=none,data:=.seq a.toArray g,slots:=#[]}->EP X i σ Q (.ref s.heap.objs.size) {s with heap:=c }:=λa d j c g kp e=>
  ⟨.ref s.heap.objs.size,_,I.laid (t':=s.toks) kp (K4 _) (show b8 X.prog X.w _ c _ (.lst ys) from⟨j,a,g,d,e⟩),rfl,q _ (I.hok.fresh (K4 _))⟩
 rcases hq with hq | hq
 ·obtain⟨a,d,m,j⟩:=I.list hq
  have k:=d.length;obtain⟨o,v,y,n,x⟩:=m.isList;exact call_list_seq p (.inl rfl) v y x (λc g kp e=>fin a d j c g kp e) (by simp only[KL]<;>omega)
 ·obtain⟨a,d,m,j⟩:=I.tuple hq
  have k:=d.length;obtain⟨o,v,y,n,x⟩:=m;exact call_list_seq p (.inr rfl) v y x (λc g kp e=>fin a d j c g kp e) (by simp only[KL]<;>omega)
def GX(K:Ly)(T:String)(x:V)(H:Hp):Prop:=match x with
 | .str _=>T="str"
 | .int _=>T="int"
 | .ref p=>(T="list"/\∃xs,aN K H p xs)\/(T="tuple"/\∃o,K.lookup p=some o/\o.cls=.type "tuple"/\o.dict=none) \/
   (T="dict"/\((∃kvs,H p=some (.dK kvs))\/∃kvs,H p=some (.dT kvs)))\/(T="set"/\∃S n,H p=some (.set S n))
 |_=>False
theorem Fr{pins:Lz}{σ:St}(I:Inv X pins σ H s)(r:bH x v)(ty:GX X.K T x H) :
  s.TypeIs v T/\∀a,v=.ref a->∃ob,s.heap.get? a=some ob/\ob.dict=none:=by
 cases x with
 |str z=>
  obtain⟨t,rfl⟩:=r;cases(show T="str" from ty);exact⟨typeIs_str s z t,λ_ e=>nomatch e⟩
 |int i=>
  obtain⟨t,rfl⟩:=r;cases(show T="int" from ty);exact⟨typeIs_int s i t,λ_ e=>nomatch e⟩
 |ref p=>
  cases r;rcases ty with⟨rfl,xs,m⟩ | ⟨rfl,o,b,q,j⟩ | ⟨rfl,b⟩ | ⟨rfl,S,n,b⟩
  ·obtain⟨its,_,l,_⟩:=I.list m
   refine⟨l.isList.typeIs,λa e=>?_⟩;cases e;obtain⟨o,n,e,c,j,_⟩:=l;exact⟨o,e,j⟩
  ·refine⟨⟨o,I.kIn p o b,q⟩,λa e=>?_⟩
   cases e;exact⟨o,I.kIn _ o b,j⟩
  ·have z:∃o,s.heap.get? p=some o/\o.ExactDict:=by
    rcases b with⟨g,b⟩ | ⟨g,b⟩
    ·obtain⟨_,_,_,_,o,_,_,e,d,_⟩:=I.hok p _ b
     exact⟨o,e,d⟩
    ·obtain⟨_,_,_,_,o,_,_,e,d,_⟩:=I.hok p _ b
     exact⟨o,e,d⟩
   obtain⟨o,e,d⟩:=z;refine⟨⟨o,e,d.1⟩,λa k=>?_⟩;cases k;exact⟨o,e,d.2.1⟩
  ·obtain⟨o,_,_,_,e,d,_⟩:=I.hok p _ b
   refine⟨⟨o,e,d.1⟩,λa k=>?_⟩;cases k;exact⟨o,e,d.2.1⟩
 |_=>exact False.elim ty
def F3(K:Ly)(T:String)(r:V->List V->Hp->VK->Prop)(to:TE)(t:TA):TE:=λσ H Q=>to σ H λx H1=>GX K T x H1/\t σ H1 λxs H2=>r x xs H2 Q
variable {o e:Expr}{es:LM}{to:TE}{t:TA}{name:Str}{apos cpos:Pos}{T id:String}{r:V->List V->Hp->VK->Prop}
theorem cJ(pa:PlainAttrs T)(slot:Slot T name id)(hty:typeOf (.builtin id)=pure (.type "method_descriptor"))(hm:Ho X id r)(ho:PE X o to)(ha:PA X (e::es) t)
  (hbase:autoParam (attributeBase o name X.env (eval o X.env)=eval o X.env) zz0._auto_1)
  (hfew:autoParam (((backTo cpos (starEach (e::es) X.env)).all (λx=>!x.1)&&(backToKw cpos (keywordEach [] X.env)).all (λx=>x.1.isSome)
   && decide ((e::es).length+([]:List Keyword).length+(if([]:List Keyword).isEmpty then 0 else 1)<30))=true) zz0._auto_1)
  (hline:autoParam ((apos.endLine==cpos.line)=true) zz0._auto_1) (hs:autoParam (starEach (e::es) X.env=(false,eval e X.env)::starEach es X.env) zz0._auto_1) (hplain:autoParam ((backTo cpos (starEach es X.env)).any (·.1)=false) zz0._auto_1) :
  PE X (.Call (.Attribute o name apos) (e::es) [] cpos) (F3 X.K T r to t):=by
 intro a s σ H Q I h;refine wpAny_Call_method_late hbase hfew hline rfl (cz (ho a s σ H _ I h) λv i ⟨x,H1,d,b,ty,l⟩=>?_);obtain⟨h1,h2⟩:=Fr d b ty;refine⟨T,id,pa,slot,hty,h1,h2,?_⟩;have c:=ha cpos a i σ H1 _ d l;rw[hs]at c ⊢;refine Calls.callWith_builtin (by show(false||(backTo cpos (starEach es X.env)).any (·.1))=false;rw[hplain]<;>rfl) (Calls.evalArgs_plain ?_);exact cz c λus g ⟨vs,H2,m,j,k⟩=>hm a g σ H2 x vs v us Q m b j k
end
def GL(X:Cx)(id:String)(r:V->List V->Hp->VK->Prop):Prop:=
 ∀(pins:Lz) (s:LB) (σ:St) (H:Hp) (x:V) (xs:List V) (v:Value) (us:LC) (Q:VK),Inv X pins σ H s->bH x v->bx xs us->r x xs H Q ->
  wpAny (model X.prog X.w) X.A (call (.builtin id) (v::us)) (EP X pins σ Q) X.xe s
theorem bx.one{x:V}{us:LC}(h:bx [x] us):∃u,us=[u]/\bH x u:=by
 cases h with | cons r h=>cases h;exact⟨_,rfl,r⟩
theorem bx.two{x y:V}{us:LC}(h:bx [x,y] us):∃u v,us=[u,v]/\bH x u/\bH y v:=by
 cases h with | cons r h=>obtain⟨u,rfl,q⟩:=bx.one h;exact⟨_,_,rfl,r,q⟩
theorem bx.zero:∀{us:LC},bx [] us->us=[]
 |_,.nil=>rfl
theorem bx.eraseIdx:∀{xs:List V} {us:LC} (i:Nat),bx xs us->bx (xs.eraseIdx i) (us.eraseIdx i)
 |_,_,_,.nil=>.nil
 |_,_,0,.cons _ t=>t
 |_,_,i+1,.cons r t=>.cons r (bx.eraseIdx i t)
theorem qB{α:Type}:∀(l:List α) (i:Nat),(l.eraseIdx i).length<=l.length
 | [],_=>K4 _
 |_::_,0=>Nat.le_succ _
 |_::r,i+1=>Nat.succ_le_succ (qB r i)
section
variable {X:Cx}{pins:Lz}{σ:St}{H:Hp}{s:LB}{l b:Addr}{xs ys zs:List V}
theorem Inv.lset{its its':LC}{f:Array Value->Array Value}{t':Nat}(I:Inv X pins σ H s)(hH:H l=some (.lst xs))
  (e:s.heap.get? l=some {cls:=.type "list",data:=.seq its.toArray n}) (hf:f its.toArray=its'.toArray) (hv:bx ys its') (hz:ys.length<=sizeLine) :
  Inv X pins σ (aE H l (.lst ys)) {s with heap:=s.heap.update l (Obj.mapSeq f),toks:=t' }:=by
 have q:=PySem.IsL.update e f;rw[hf]at q;refine I.write (x:=l) (e:=l) (by rw[hH];exact trivial) (.inl rfl) (λb' u b a=>(KI s.heap (Obj.mapSeq f) (Ne.symm b)).trans a) ⟨_,q⟩ ?_;exact⟨hz,its',_,hv,q⟩
theorem Inv.lnew{its:LC}{t':Nat}(I:Inv X pins σ H s)(hv:bx ys its)(hz:ys.length<=sizeLine) :
  Inv X pins σ (aE H s.heap.objs.size (.lst ys)) {s with heap:=s.heap.push {cls:=.type "list",data:=.seq its.toArray},toks:=t' }:=
 I.laid (λ_ _ q=>KC _ q) (K4 _) ⟨hz,its,0,hv,KJ _ rfl⟩
theorem Inv.fresh(I:Inv X pins σ H s):H s.heap.objs.size=none:=I.hok.fresh (K4 _)
theorem Inv.lstM(I:Inv X pins σ H s)(hH:H l=some (.lst xs)):xs.length<=sizeLine/\∃(its:LC) (n:Nat),bx xs its/\xs.length=its.length/\s.heap.get? l=some {cls:=.type "list",data:=.seq its.toArray n}:=by
 obtain⟨z,its,n,r,e⟩:=I.hok l _ hH;exact⟨z,its,n,r,r.length,e⟩
theorem Ai{n:Nat}(h:n<=sizeLine):Builtin.List.listTooLong n=false:=by
 unfold Builtin.List.listTooLong;exact q08 ⋯
end
section
variable {X:Cx}
def si:V->List V->Hp->VK->Prop:=λx vs H Q=>∃l xs y,x=.ref l/\vs=[y]/\H l=some (.lst xs)/\xs.length<sizeLine/\Q .non (aE H l (.lst (xs++[y])))
theorem bo:GL X "list.append" si:=by
 intro pins s σ H x vs v us Q I rx rv h;obtain⟨l,xs,y,rfl,rfl,b,hz,q⟩:=h;cases rx;obtain⟨u,rfl,c⟩:=rv.one;obtain⟨z,a,n,r,hl,e⟩:=I.lstM b;refine call_meets F.slot_list_append ⟨_,e,rfl⟩ F.entry_list_append (F.args_list_append_2 _ _) (PySem.list_append l a.toArray n u (by rw[KL];omega)) ⟨e,?_⟩;refine⟨.non,_,I.lset (its':=a++[u]) b e (by simp) (r.append (.cons c .nil)) ?_,rfl,q⟩;rw[K3,q0Z];omega
theorem q03{e:Expr}{es:List Expr}{to:TE}{t:TA}{apos cpos:Pos}(ho:PE X o to)(ha:PA X (e::es) t)
  (hbase:autoParam (attributeBase o "append" X.env (eval o X.env)=eval o X.env) zz0._auto_1)
  (hfew:autoParam (((backTo cpos (starEach (e::es) X.env)).all (λx=>!x.1)&&(backToKw cpos (keywordEach [] X.env)).all (λx=>x.1.isSome)
   && decide ((e::es).length+([]:List Keyword).length+(if([]:List Keyword).isEmpty then 0 else 1)<30))=true) zz0._auto_1)
  (hline:autoParam ((apos.endLine==cpos.line)=true) zz0._auto_1) (hs:autoParam (starEach (e::es) X.env=(false,eval e X.env)::starEach es X.env) zz0._auto_1) (hplain:autoParam ((backTo cpos (starEach es X.env)).any (·.1)=false) zz0._auto_1) :
  PE X (.Call (.Attribute o "append" apos) (e::es) [] cpos) (F3 X.K "list" si to t):=cJ PySem.F.plainAttrs_list PySem.F.slot_list_append PySem.F.type_list_append bo ho ha hbase hfew hline hs hplain
def tP:V->List V->Hp->VK->Prop:=λx vs H Q=>∃l b xs zs,x=.ref l/\vs=[.ref b]/\H l=some (.lst xs)/\H b=some (.lst zs)/\xs.length+zs.length<=sizeLine/\Q .non (aE H l (.lst (xs++zs)))
theorem zk:GL X "list.extend" tP:=by
 intro pins s σ H x vs v us Q I rx rv h;obtain⟨l,b,xs,zs,rfl,rfl,i,o,hz,q⟩:=h;cases rx;obtain⟨u,rfl,j⟩:=rv.one;cases j;obtain⟨z,c,n,r,hl,e⟩:=I.lstM i;obtain⟨z2,a,m,k,hl2,p⟩:=I.lstM o;have g:c.toArray.size+a.toArray.size<=sizeLine:=by rw[KL,KL];omega
 have d:¬ (!c.toArray.isEmpty&&Builtin.List.listTooLong (c.toArray.size+a.toArray.size))=true:=by
  rw[Ai g,Bool.and_false];exact K6
 refine call_meets F.slot_list_extend ⟨_,e,rfl⟩ F.entry_list_extend (F.args_list_extend_2 _ _)
  (AutoSeq1.list_extend_list_list_0 l c.toArray n b a.toArray m d (by rw[KL];omega) ⋯) ⟨e,p,?_⟩
 refine⟨.non,_,I.lset (its':=c++a) i e (by simp) (r.append k) ?_,rfl,q⟩;rw[K3];omega
def vP:V->List V->Hp->VK->Prop:=λx vs H Q=>∃l xs i k y,x=.ref l/\vs=[.int i]/\H l=some (.lst xs)/\-(2 ^ 63)<=i/\i<2 ^ 63/\seqIndex? i xs.length=some k/\xs[k]?=some y/\Q y (aE H l (.lst (xs.eraseIdx k)))
theorem Cb:GL X "list.pop" vP:=by
 intro pins s σ H x vs v us Q I rx rv h;obtain⟨l,d,i,k,y,rfl,rfl,c,h1,h2,p,j,q⟩:=h;cases rx;obtain⟨u,rfl,g⟩:=rv.one;obtain⟨t,rfl⟩:=g;obtain⟨z,a,n,r,o,e⟩:=I.lstM c;obtain⟨w,m,b⟩:=r.get j;refine call_meets F.slot_list_pop ⟨_,e,rfl⟩ F.entry_list_pop (F.args_list_pop_2 _ _)
  (MeetsSeq.list_pop_at l a.toArray n i t k w (fitsIndex_both h1 h2) (by rw[KL,<- o];exact p) (by rw[<- q0G];exact m) (by rw[KL];omega)) ⟨e,?_⟩
 refine⟨y,_,I.lset (its':=a.eraseIdx k) c e ?_ (r.eraseIdx k) ?_,b,q⟩
 ·show a.toArray.eraseIdxIfInBounds k=(a.eraseIdx k).toArray
  rw[List.eraseIdxIfInBounds_toArray]
 ·have:=qB d k
  omega
def Fn:R2:=λx y H Q=>∃l b xs zs,x=.ref l/\y=.ref b/\H l=some (.lst xs)/\H b=some (.lst zs)/\xs.length+zs.length<=sizeLine/\∀p,H p=none->Q (.ref p) (aE H p (.lst (xs++zs)))
theorem BE:bE X (binaryOp .Add) Fn:=by
 intro pins s σ H x y v u Q I rx ry h;obtain⟨l,b,xs,zs,rfl,rfl,g,i,hz,q⟩:=h;cases rx;cases ry;obtain⟨z,c,n,r,hl,e⟩:=I.lstM g;obtain⟨z2,a,n2,d,hl2,k⟩:=I.lstM i;refine PySem.P.add_list e k ?_ (by rw[KL,KL];omega);have j:c.toArray++a.toArray=(c++a).toArray:=by simp
 rw[j];exact⟨.ref _,_,I.lnew (t':=s.toks) (r.append d) (by rw[K3];omega),rfl,q _ I.fresh⟩
theorem tQ{α:Type}(xs:List α)(k:Nat):(List.replicate k xs).flatten.length=k*xs.length:=by
 induction k with
 |zero=>simp
 |succ k ih=>rw[q0c,List.flatten_cons,K3,ih,Nat.succ_mul,Nat.add_comm]
end
section
variable {κ:Type}[DecidableEq κ]
def dL(kvs:List (κ×V))(k:κ):Option V:=(kvs.find? λkv=>decide (kv.1=k)).map (·.2)
def dE(kvs:List (κ×V))(k:κ)(v:V):List (κ×V):=
 if(kvs.any λkv=>decide (kv.1=k))=true then kvs.map (λkv=>if kv.1=k then(kv.1,v) else kv) else kvs++[(k,v)]
theorem fK{p:κ×V}{r:List (κ×V)}{k:κ}(e:p.1=k):dL (p::r) k=some p.2:=by simp[dL,List.find?_cons,e]
theorem fP{p:κ×V}{r:List (κ×V)}{k:κ}(e:¬ p.1=k):dL (p::r) k=dL r k:=by simp[dL,List.find?_cons,e]
theorem gU(k:κ):∀kvs:List (κ×V),(kvs.any λkv=>decide (kv.1=k))=(dL kvs k).isSome
 | []=>rfl
 |p::r=>by
  rw[List.any_cons]
  by_cases e:p.1=k
  ·simp only[fK e,q09 e,Bool.true_or,Option.isSome_some]
  ·rw[fP e,q08 e,Bool.false_or];exact gU k r
theorem gc(kvs:List (κ×V))(k:κ)(v:V):(dE kvs k v).length<=kvs.length+1:=by
 unfold dE
 split
 ·rw[KD];omega
 ·rw[K3,KP,List.length_nil];omega
theorem AQ{kvs:List (κ×V)}{k:κ}(v:V)(h:dL kvs k=none):dE kvs k v=kvs++[(k,v)]:=by
 unfold dE;rw[gU,h];exact q06 (by decide)
theorem iD.isSome_eq(r:iD o u):o.isSome=u.isSome:=by
 cases o with
 |none=>cases u with
  |none=>rfl
  |some _=>exact(show False from r).elim
 |some _=>cases u with
  |none=>exact(show False from r).elim
  |some _=>rfl
theorem iD.getD(r:iD o u)(rd:bH d d'):bH (o.getD d) (u.getD d'):=by
 cases o with
 |none=>cases u with
  |none=>exact rd
  |some _=>exact(show False from r).elim
 |some _=>cases u with
  |none=>exact(show False from r).elim
  |some _=>exact r
theorem KV.val{kvs:List (κ×V)}{vs:List (κ×Value)}(r:KV kvs vs)(k:κ):iD (dL kvs k) (valueAt vs k):=by
 unfold KV at r
 induction r with
 |nil=>exact True.intro
 | @cons p q ps qs h t ih=>
  obtain⟨h1,h2⟩:=h
  by_cases e:p.1=k
  ·have a:q.1=k:=h1.symm.trans e
   have b:valueAt (q::qs) k=some q.2:=by simp[valueAt,List.find?_cons,a]
   rw[fK e,b];exact h2
  ·have a:¬ q.1=k:=λz=>e (h1.trans z)
   have b:valueAt (q::qs) k=valueAt qs k:=by simp[valueAt,List.find?_cons,a]
   rw[fP e,b];exact ih
theorem KV.any{kvs:List (κ×V)}{vs:List (κ×Value)}(r:KV kvs vs)(k:κ):(kvs.any λkv=>decide (kv.1=k))=vs.any λkv=>decide (kv.1=k):=by
 unfold KV at r
 induction r with
 |nil=>rfl
 |cons h t ih=>rw[List.any_cons,List.any_cons,ih,h.1]
theorem KV.repl{kvs:List (κ×V)}{vs:List (κ×Value)}(r:KV kvs vs)(k:κ){y:V}{u:Value}(ry:bH y u) :
  KV (kvs.map λkv=>if kv.1=k then(kv.1,y) else kv) (vs.map λkv=>if kv.1=k then(kv.1,u) else kv):=by
 unfold KV at r ⊢
 induction r with
 |nil=>exact .nil
 | @cons p q ps qs h t ih=>
  rw[K_,K_];refine .cons ?_ ih;obtain⟨h1,h2⟩:=h
  by_cases e:p.1=k
  ·rw[q07 e,q07 (h1.symm.trans e)];exact⟨h1,ry⟩
  ·rw[q06 e,q06 (λz=>e (h1.trans z))];exact⟨h1,h2⟩
theorem KV.put{kvs:List (κ×V)}{vs:List (κ×Value)}(r:KV kvs vs)(k:κ){y:V}{u:Value}(ry:bH y u):KV (dE kvs k y) (stored vs k u):=by
 unfold dE stored;rw[r.any k]
 by_cases e:(vs.any λa=>decide (a.1=k))=true
 ·rw[q07 e,q07 e];exact r.repl k ry
 ·rw[q06 e,q06 e];exact Paired.snoc r ⟨rfl,ry⟩
theorem KV.keys{kvs:List (κ×V)}{vs:List (κ×Value)}(r:KV kvs vs):kvs.map (·.1)=vs.map (·.1):=by
 unfold KV at r
 induction r with
 |nil=>rfl
 |cons h t ih=>rw[K_,K_,ih,h.1]
theorem KV.length{kvs:List (κ×V)}{vs:List (κ×Value)}(r:KV kvs vs):kvs.length=vs.length:=Paired.length r
end
theorem my{u:Value}(r:bH (kV k) u):(b5 P w).is k u=true:=by
 cases k with
 |inl i=>obtain⟨t,e⟩:=(show ∃t,u=Value.int i t from r);subst e;exact t_ P w i t
 |inr x=>obtain⟨t,e⟩:=(show ∃t,u=Value.str x t from r);subst e;exact ut P w x t
theorem qF:∀{ks:List cL} {us:LC},bx (ks.map kV) us->ItemsAre (b5 P w) ks us
 | [],_,r=>by rw[List.map_nil]at r;cases r;exact .nil
 |k::ks,_,r=>by
  rw[K_]at r;cases r with
  |cons h t=>exact .cons (my h) (qF t)
abbrev KT(H:Hp):List (List cL×V)->List (List cL×Addr×Value)->Prop:=Paired λp q=>p.1=q.1/\H q.2.1=some (.tup (p.1.map kV))/\bH p.2 q.2.2
theorem KT.val(r:KT H kvs xs)(k:List cL):iD (dL kvs k) ((atKey xs k).map (·.2)):=by
 induction r with
 |nil=>exact True.intro
 | @cons p q ps qs h t ih=>
  obtain⟨h1,_,h2⟩:=h
  by_cases e:p.1=k
  ·have a:q.1=k:=h1.symm.trans e
   have b:atKey (q::qs) k=some q.2:=by simp[atKey,List.find?_cons,a]
   rw[fK e,b];exact h2
  ·have a:¬ q.1=k:=λz=>e (h1.trans z)
   have b:atKey (q::qs) k=atKey qs k:=by simp[atKey,List.find?_cons,a]
   rw[fP e,b];exact ih
theorem KT.repl(r:KT H kvs xs)(k:List cL){y:V}{u:Value}(ry:bH y u) :
  KT H (kvs.map λkv=>if kv.1=k then(kv.1,y) else kv) (xs.map (putAt k u)):=by
 induction r with
 |nil=>exact .nil
 | @cons p q ps qs h t ih=>
  rw[K_,K_];refine .cons ?_ ih;obtain⟨h1,h2,a⟩:=h;unfold putAt
  by_cases e:p.1=k
  ·rw[q07 e,q07 (h1.symm.trans e)];exact⟨h1,h2,ry⟩
  ·rw[q06 e,q06 (λz=>e (h1.trans z))];exact⟨h1,h2,a⟩
theorem KT.put(r:KT H kvs xs)(k:List cL){b:Addr}{y:V}{u:Value}(hb:H b=some (.tup (k.map kV)))(ry:bH y u) :
  KT H (dE kvs k y) (storedH xs k b u):=by
 have e:(kvs.any λa=>decide (a.1=k))=(atKey xs k).isSome:=by
  rw[gU,(r.val k).isSome_eq,Option.isSome_map]
 unfold dE storedH;rw[e]
 by_cases q:(atKey xs k).isSome=true
 ·rw[q07 q,q07 q];exact r.repl k ry
 ·rw[q06 q,q06 q];exact Paired.snoc r ⟨rfl,hb,ry⟩
theorem KT.keeps{H':Hp}(r:KT H kvs xs)(ht:∀b ys,H b=some (.tup ys)->H' b=some (.tup ys)):KT H' kvs xs:=
 Paired.mapP r λ_ _ z=>⟨z.1,ht _ _ z.2.1,z.2.2⟩
section
variable {P:LH}{w:LK}{H:Hp}{h:Heap}{a:Addr}
theorem DY(ok:i4 P w H h)(e:Rd H a u):b8 P w H h a u:=e.ok ok
theorem mn(ok:i4 P w H h)(e:Rd H a (.dK kvs)):kvs.length<=sizeLine/\(a==sysModules)=false/\∃vs,KV kvs vs/\h.DictOf (b5 P w) a vs:=
 show b8 P w H h a (.dK kvs) from DY ok e
theorem qY(ok:i4 P w H h)(e:H a=some (.dK kvs)):kvs.length<=sizeLine/\(a==sysModules)=false/\∃vs,KV kvs vs/\h.DictOf (b5 P w) a vs:=mn ok (.inl e)
theorem lU{ks:List cL}(ok:i4 P w H h)(e:H a=some (.tup (ks.map kV))):(tupleKind (b5 P w)).is h ks a:=by
 obtain⟨_,b,r,o,h1,h2,n,c⟩:=(show b8 P w H h a (.tup (ks.map kV)) from ok a _ e);exact⟨o,b.toArray,n,h1,h2,c,by simpa using qF r⟩
theorem ke(ok:i4 P w H h)(e:Rd H a (.dT kvs)):kvs.length<=sizeLine/\(a==sysModules)=false /\
  ∃xs,KT H kvs xs/\h.DictOfH (tupleKind (b5 P w)) a xs:=by
 obtain⟨z,y,xs,r,o,g,i,h1,h2,d,c,b⟩:=(show b8 P w H h a (.dT kvs) from DY ok e);refine⟨z,y,xs,r,o,g,i,h1,h2,d,c,λx hx=>?_,b⟩;have all:∀{l:List (List cL×V)} {m:List (List cL×Addr×Value)},KT H l m->∀x∈m,(tupleKind (b5 P w)).is h x.1 x.2.1:=by
  intro l m q
  induction q with
  |nil=>intro x hx;exact nomatch hx
  | @cons p q ps qs hq t ih=>
   intro x hx;rcases KU.mp hx with e | hx
   ·subst e
    exact lU ok (by rw[<- hq.1];exact hq.2.1)
   ·exact ih x hx
 exact all r x hx
theorem Gn(ok:i4 P w H h)(e:H a=some (.dT kvs)):kvs.length<=sizeLine/\(a==sysModules)=false /\
  ∃xs,KT H kvs xs/\h.DictOfH (tupleKind (b5 P w)) a xs:=ke ok (.inl e)
end
def jr(H:Hp)(a:Addr)(y:V)(r:Option V):Prop:=
 (∃kvs k,Rd H a (.dK kvs)/\y=kV k/\r=dL kvs k)\/∃kvs k b,Rd H a (.dT kvs)/\y=.ref b/\H b=some (.tup (k.map kV))/\r=dL kvs k
def wJ(H:Hp)(a:Addr)(y v:V)(H':Hp):Prop:=
 (∃kvs k,H a=some (.dK kvs)/\y=kV k/\kvs.length<sizeLine/\H'=aE H a (.dK (dE kvs k v))) \/
 ∃kvs k b,H a=some (.dT kvs)/\y=.ref b/\H b=some (.tup (k.map kV))/\kvs.length<sizeLine/\H'=aE H a (.dT (dE kvs k v))
theorem jr.t{H:Hp}{k:List cL}(e:H a=some (.dT kvs))(eb:H b=some (.tup (k.map kV))):jr H a (.ref b) (dL kvs k):=.inr ⟨kvs,k,b,.inl e,rfl,eb,rfl⟩
theorem wJ.t{H:Hp}{k:List cL}{v:V}(e:H a=some (.dT kvs))(eb:H b=some (.tup (k.map kV)))(hl:kvs.length<sizeLine) :
  wJ H a (.ref b) v (aE H a (.dT (dE kvs k v))):=.inr ⟨kvs,k,b,e,rfl,eb,hl,rfl⟩
section
variable {X:Cx}{pins:Lz}{σ:St}{H:Hp}{s:LB}{a:Addr}{y v:V}{u r:Value}{o:Option V}{A:LJ}{E:Lx}
theorem Inv.big(I:Inv X pins σ H s):sysModules<s.heap.objs.size:=by
 have h:mainGlobals<s.heap.objs.size:=(I.mod.glob.keeps I.bk).lt;exact Nat.lt_trans (by decide) h
theorem zC{Q:Lx}(hu:A.units+1<cLine)(I:Inv X pins σ H s)(g:jr H a y (some v))(ry:bH y u)(h:∀w' s',Inv X pins σ H s'->bH v w'->Q w' s') :
  wpAny (model X.prog X.w) A (getItem (.ref a) u) Q E s:=by
 rcases g with⟨i,k,e,n,l⟩ | ⟨i,k,b,e,n,B,l⟩
 ·subst n
  obtain⟨z,x,vs,d,q⟩:=mn I.hok e;obtain⟨w',j,c⟩:=iD.some_of (v:=v) (o:=valueAt vs k) (by rw[l];exact d.val k);exact wpAny_getItem_of (my ry) q.mapOf j (h w' _ (I.tok _) c)
 ·subst n
  cases(show u=Value.ref b from ry);obtain⟨z,x,r,d,q⟩:=ke I.hok e;obtain⟨w',j,c⟩:=iD.some_of (v:=v) (o:=(atKey r k).map (·.2)) (by rw[l];exact d.val k);obtain⟨p,w,m⟩:=K8.mp j;refine wpAny_getItem_heap (tupleKind_room_in1 hu) (lU I.hok B) q w ?_;rw[m];exact h w' _ (I.tok _) c
theorem Hu{Q:Lx}(hu:A.units+1<cLine)(I:Inv X pins σ H s)(g:jr H a y o)(ry:bH y u)(h:∀s',Inv X pins σ H s'->Q (.bool o.isSome) s') :
  wpAny (model X.prog X.w) A (compareOp .In u (.ref a)) Q E s:=by
 rcases g with⟨d,k,e,j,l⟩ | ⟨d,k,b,e,j,n,l⟩
 ·subst j
  obtain⟨z,i,vs,c,m⟩:=mn I.hok e;refine wpAny_in_of (my ry) i m.mapOf ?_;rw[<- (c.val k).isSome_eq,<- l];exact h _ (I.tok _)
 ·subst j
  cases(show u=Value.ref b from ry);obtain⟨z,i,xs,c,m⟩:=ke I.hok e;refine wpAny_in_heap (tupleKind_room_in1 hu) (lU I.hok n) i m ?_;have q:=(c.val k).isSome_eq;rw[Option.isSome_map]at q;rw[<- q,<- l];exact h _ (I.tok _)
theorem Dk{Q:Lx}(hu:A.units+1<cLine)(I:Inv X pins σ H s)(g:jr H a y o)(ry:bH y u)(h:∀s',Inv X pins σ H s'->Q (.bool (!o.isSome)) s') :
  wpAny (model X.prog X.w) A (compareOp .NotIn u (.ref a)) Q E s:=by
 rcases g with⟨d,k,e,j,l⟩ | ⟨d,k,b,e,j,n,l⟩
 ·subst j
  obtain⟨z,i,vs,c,m⟩:=mn I.hok e;refine wpAny_notIn_of (my ry) i m.mapOf ?_;rw[<- (c.val k).isSome_eq,<- l];exact h _ (I.tok _)
 ·subst j
  cases(show u=Value.ref b from ry);obtain⟨z,i,xs,c,m⟩:=ke I.hok e;refine wpAny_notIn_heap (tupleKind_room_in1 hu) (lU I.hok n) i m ?_;have q:=(c.val k).isSome_eq;rw[Option.isSome_map]at q;rw[<- q,<- l];exact h _ (I.tok _)
theorem m8{t':Nat}{ob:HO}(I:Inv X pins σ H s)(mu:F1 (H a))(hs:Heap.SameBut a s.heap h')(he:∃q,h'.get? a=some q)(new:b8 X.prog X.w (aE H a ob) h' a ob) :
  Inv X pins σ (aE H a ob) {s with heap:=h',toks:=t' }:=
 I.write (x:=a) (e:=a) mu (.inl rfl) (λb q hb z=>(hs.2 b hb).trans z) he new
theorem vL{h':Heap}{kvs:List (cL×V)}(z:kvs.length<=sizeLine)(hd:(a==sysModules)=false)(rel:KV kvs vs)(dd:h'.DictOf (b5 P w) a vs) :
  b8 P w H' h' a (.dK kvs):=⟨z,hd,vs,rel,dd⟩
theorem yH{Q:Unit->Shared->Prop}(hu:A.units+1<cLine)(I:Inv X pins σ H s)(g:wJ H a y v H')(ry:bH y u)(rv:bH v r)(h:∀s',Inv X pins σ H' s'->Q () s') :
  wpAny (model X.prog X.w) A (setItem (.ref a) u r) Q E s:=by
 rcases g with⟨i,k,e,x,l,B⟩ | ⟨i,k,b,e,x,J,l,B⟩
 ·subst x B
  obtain⟨z,w,vs,d,C⟩:=qY I.hok e;have n:vs.length<=sizeLine:=by rw[<- d.length];exact z
  have p:(dE i k v).length<=sizeLine:=by have:=gc i k v;omega
  refine wpAny_setItem_pairs (hsz:=n) (my ry) C λD j o=>h _ ?_;have M:∃q,D.get? a=some q:=let ⟨q,_,_,m,_⟩:=j;⟨q,m⟩
  exact m8 I (by rw[e];exact True.intro) o M (vL p w (d.put k rv) j)
 ·subst x B
  cases(show u=Value.ref b from ry);obtain⟨z,w,L,d,C⟩:=Gn I.hok e;have n:L.length<=sizeLine:=by rw[<- Paired.length d];exact z
  have p:(dE i k v).length<=sizeLine:=by have:=gc i k v;omega
  refine wpAny_setItem_heap (hsz:=n) (tupleKind_room_in1 hu) (lU I.hok J) C λD j o=>h _ ?_;obtain⟨q,T,U,m,h2,S,R,_,O⟩:=j;refine m8 I (by rw[e];exact True.intro) o ⟨q,m⟩ ⟨p,w,_,(d.put k J rv).keeps λc ys G=>?_,q,T,U,m,h2,S,R,O⟩;rw[av (oV G e (λz=>nomatch z))];exact G
end
section
variable {X:Cx}{pins:Lz}{σ:St}{H:Hp}{s:LB}{a:Addr}{kvs:List (cL×V)}{k:cL}{u:Value}{A:LJ}{E:Lx}
theorem Gp{Q:Lx}(I:Inv X pins σ H s)(e:Rd H a (.dK kvs))(h:∀t s',Inv X pins σ H s'->Q (.int kvs.length t) s'):wpAny (model X.prog X.w) A (call (.builtin "len") [.ref a]) Q E s:=by
 obtain⟨z,c,vs,b,d⟩:=mn I.hok e;refine call_len_dict c d (by rw[<- b.length];rw[q0W]at z;omega) ?_;rw[<- b.length];exact h _ _ (I.tok _)
end
def F8(i:Expr):Prop:=∀ov iv,subscripted i false ov iv=operate [ov,iv] (getItem ov iv)
theorem CH{prog:LH}{A:LJ}{env:Env}{value slice:Expr}{pos:Pos}{id:String}{Q:Lx}
  (hl:typeLookup (.type T) "__getitem__"=pure (some (.builtin id))) (hs:F8 slice)
  (h:wpAny b⁻¹ A (eval value env) (λo s₁=>wpAny b⁻¹ A (eval slice env) (λi s₂=>s₂.TypeIs o T/\wpAny b⁻¹ A (getItem o i) Q E s₂) E s₁) E s) :
  wpAny b⁻¹ A (eval (.Subscript value slice pos) env) Q E s:=by
 refine Subscript_ (q0X h (λo s₁ e=>q0X e (λi s₂ a=>?_) λ_ _ x=>x) λ_ _ x=>x);obtain⟨c,a⟩:=a;unfold subscriptTail;refine q04 ?_;rw[getitemInPython_of_ne c.not_modules];refine q04 (wpAny_specialOf c hl ?_);have fin:wpAny b⁻¹ A (subscripted slice false o i) (λr b=>wpAny b⁻¹ A (letTemporaryGo value o r >>= λ_=>pure r) Q E b) E s₂:=by
  rw[hs o i];exact wpAny_operating (q0X a (λr b d=>q04 (wpAny_letTemporaryGo (q05 d))) λ_ _ x=>x)
 first
  |exact q05 (q04 fin)
  |exact q04 (q05 (q04 fin))
  |exact q04 fin
theorem u9{pins:Lz}{σ:St}(I:Inv X pins σ H s)(g:jr H a y o):s.TypeIs (.ref a) "dict":=by
 rcases g with⟨c,k,e,_,_⟩ | ⟨c,k,b,e,_,_,_⟩
 ·obtain⟨_,_,vs,_,d⟩:=mn I.hok e
  exact d.typeIs
 ·obtain⟨_,_,xs,_,d⟩:=ke I.hok e
  exact d.typeIs
def BM(td ty:TE):TE:=λσ H Q=>td σ H λx H1=>ty σ H1 λy H2=>∃a v,x=.ref a/\jr H2 a y (some v)/\Q v H2
def Fh(ty td:TE):TE:=λσ H Q=>ty σ H λy H1=>td σ H1 λx H2=>∃a o,x=.ref a/\jr H2 a y o/\Q (.bl o.isSome) H2
def sZ(ty td:TE):TE:=λσ H Q=>ty σ H λy H1=>td σ H1 λx H2=>∃a o,x=.ref a/\jr H2 a y o/\Q (.bl (!o.isSome)) H2
def A2(td ty tv:TE):TS:=λD σ H=>tv σ H λv H1=>td σ H1 λx H2=>ty σ H2 λy H3=>∃a H4,x=.ref a/\wJ H3 a y v H4/\D.nx σ H4
section
variable {X:Cx}{o i e value:Expr}{pos pos' tpos:Pos}{td ty tv:TE}
theorem i8(hu:X.A.units+1<cLine)(ho:PE X o td)(hi:PE X i ty)(hs:F8 i):PE X (.Subscript o i pos) (BM td ty):=by
 intro b s σ H Q I h;refine CH PySem.F.slot_dict_getitem.lookup hs (cz (ho b s σ H _ I h) λu e ⟨x,H1,q,k,m⟩=>cz (hi b e σ H1 _ q m) λiv s2 ⟨y,H2,d,j,a,v,n,g,l⟩=>?_);subst n;obtain rfl:u=Value.ref a:=k;exact⟨u9 d g,zC hu d g j λw' s3 p c=>⟨v,H2,p,c,l⟩⟩
theorem xp(hu:X.A.units+1<cLine)(hi:PE X i ty)(ho:PE X o td):PC X .In i o (Fh ty td):=by
 intro b s σ H Q I h;refine cz (hi b s σ H _ I h) λiv c ⟨y,H1,q,d,k⟩=>cz (ho b c σ H1 _ q k) λu s2 ⟨x,H2,p,e,a,l,m,g,j⟩=>?_;subst m;obtain rfl:u=Value.ref a:=e;exact Hu hu p g d λs3 n=>⟨.bl l.isSome,H2,n,rfl,j⟩
theorem qx(hu:X.A.units+1<cLine)(hi:PE X i ty)(ho:PE X o td):PC X .NotIn i o (sZ ty td):=by
 intro b s σ H Q I h;refine cz (hi b s σ H _ I h) λiv c ⟨y,H1,q,d,k⟩=>cz (ho b c σ H1 _ q k) λu s2 ⟨x,H2,p,e,a,l,m,g,j⟩=>?_;subst m;obtain rfl:u=Value.ref a:=e;exact Dk hu p g d λs3 n=>⟨.bl (!l.isSome),H2,n,rfl,j⟩
theorem kt(hu:X.A.units+1<cLine)(ho:PE X o td)(hi:PE X i ty)(hv:PE X value tv)(hs:swapsWith value (some (.Subscript o i pos')) pos.line X.env=pure false) :
  PS X (.Assign [.Subscript o i pos'] value pos) (A2 td ty tv):=by
 intro b s σ H D I h;refine wpAny_Assign_Subscript (cz (hv b s σ H _ I h) λr d ⟨v,H1,B,k,n⟩=>cz (ho b d σ H1 _ B n) λu c ⟨x,H2,z,j,m⟩=>cz (hi b c σ H2 _ z m) λiv s3 ⟨y,H3,w,e,a,C,p,g,l⟩=>?_) hs;subst p;obtain rfl:u=Value.ref a:=j;exact yH hu w g e k λs4 q=>⟨σ,C,q,l⟩
end
theorem uM(h:Heap)(hb:sysModules<h.objs.size):b8 P w H (h.push {cls:=.type "dict",data:=.dict #[]}) h.objs.size (.dK []):=
 ⟨K5 _,beq_eq_false_iff_ne.mpr (Ne.symm (K0 hb)),[],.nil,Heap.DictOf.new h⟩
theorem AH(h:Heap)(hb:sysModules<h.objs.size):b8 P w H (h.push {cls:=.type "dict",data:=.dict #[]}) h.objs.size (.dT []):=
 ⟨K5 _,beq_eq_false_iff_ne.mpr (Ne.symm (K0 hb)),[],.nil,_,#[],0,KJ _ rfl,⟨rfl,rfl,rfl⟩,rfl,rfl,List.nodup_nil⟩
def v_:TE:=λ_ H Q=>∀p,H p=none->Q (.ref p) (aE H p (.dK []))
def wQ:TE:=λ_ H Q=>∀p,H p=none->Q (.ref p) (aE H p (.dT []))
section
variable {X:Cx}{pos:Pos}
theorem nN:PE X (.Dict [] [] pos) v_:=λpins s σ H Q I h=>
 wpAny_Dict_empty ⟨.ref s.heap.objs.size,_,I.laid (a:=s.heap.objs.size) (o:=.dK []) (t':=s.toks) (λ_ _ q=>KC _ q) (K4 _) (uM s.heap I.big),rfl,h _ (I.hok.fresh (K4 _))⟩
theorem uy:PE X (.Dict [] [] pos) wQ:=λpins s σ H Q I h=>
 wpAny_Dict_empty ⟨.ref s.heap.objs.size,_,I.laid (a:=s.heap.objs.size) (o:=.dT []) (t':=s.toks) (λ_ _ q=>KC _ q) (K4 _) (AH s.heap I.big),rfl,h _ (I.hok.fresh (K4 _))⟩
end
def o8:List (TE×TE)->St->Hp->(List (V×V)->Hp->Prop)->Prop
 | [],_,H,Q=>Q [] H
 | (tk,tv)::r,σ,H,Q=>tk σ H λx H1=>tv σ H1 λy H2=>o8 r σ H2 λps H3=>Q ((x,y)::ps) H3
abbrev VV:List (V×V)->List (Value×Value)->Prop:=Paired λp q=>bH p.1 q.1/\bH p.2 q.2
def GM(X:Cx)(pos:Pos)(keys:List (Option Expr))(values:LM)(trs:List (TE×TE)):Prop:=
 ∀(pins:Lz) (s:LB) (σ:St) (H:Hp) (Q:List (V×V)->Hp->Prop),Inv X pins σ H s->o8 trs σ H Q ->
  wpAny (model X.prog X.w) X.A (evalPairs (pairTrees keys values X.env pos)) (λvs s'=>∃ps H',Inv X pins σ H' s'/\VV ps vs/\Q ps H') X.xe s
theorem DI{pos:Pos}:GM X pos [] [] []:=λpins s σ H Q I h=>pairTrees_nil_walk ⟨[],H,I,.nil,h⟩
theorem An{pos:Pos}{k v:Expr}{ks:List (Option Expr)}{tk tv:TE}{trs:List (TE×TE)}(hk:PE X k tk)(hv:PE X v tv)(hr:GM X pos ks vs trs) :
  GM X pos (some k::ks) (v::vs) ((tk,tv)::trs):=λpins s σ H Q I h=>
 pairTrees_cons_walk (cz (hk pins s σ H _ I h) λu s1 ⟨x,H1,I1,rx,q1⟩=>cz (hv pins s1 σ H1 _ I1 q1) λw2 s2 ⟨y,H2,I2,ry,q2⟩=>
  cz (hr pins s2 σ H2 _ I2 q2) λws s3 ⟨ps,H3,I3,rel,q3⟩=>⟨(x,y)::ps,H3,I3,.cons ⟨rx,ry⟩ rel,q3⟩)
def oF(kvs more:List (cL×V)):List (cL×V):=more.foldl (λacc kv=>dE acc kv.1 kv.2) kvs
theorem KV.merge:∀{more:List (cL×V)} {rs:List (cL×Value)} {kvs:List (cL×V)} {vs:List (cL×Value)},KV more rs->KV kvs vs->KV (oF kvs more) (merged vs rs):=by
 intro more rs kvs vs r;unfold KV at r
 induction r generalizing kvs vs with
 |nil=>intro q;exact q
 | @cons p q ps qs h t ih=>
  intro a;have e:KV (dE kvs p.1 p.2) (stored vs q.1 q.2):=by
   have:=a.put p.1 h.2;rw[<- h.1];exact this
  exact ih e
theorem jz:∀(more kvs:List (cL×V)),(oF kvs more).length<=kvs.length+more.length
 | [],kvs=>by show kvs.length<=kvs.length+0;omega
 |p::r,kvs=>by
  have h1:=jz r (dE kvs p.1 p.2);have h2:=gc kvs p.1 p.2;show(oF (dE kvs p.1 p.2) r).length<=_;rw[KP];omega
theorem ol:∀{kvs:List (cL×V)} {ws:List (Value×Value)},VV (kvs.map λkv=>(kV kv.1,kv.2)) ws->∃rs,Carries (b5 P w) ws rs/\KV kvs rs
 | [],_,r=>by rw[List.map_nil]at r;cases r;exact⟨[],True.intro,.nil⟩
 |p::kvs,_,r=>by
  rw[K_]at r;cases r with
  | @cons a b as bs h t=>
   obtain⟨rs,c,q⟩:=ol (P:=P) (w:=w) t;obtain⟨b1,b2⟩:=b;exact⟨(p.1,b2)::rs,⟨my h.1,rfl,c⟩,.cons ⟨rfl,h.2⟩ q⟩
def Bi(trs:List (TE×TE)):TE:=λσ H Q=>∀p,H p=none->o8 trs σ (aE H p (.dK [])) λps H2=>H2 p=some (.dK [])/\∃kvs:List (cL×V),ps=kvs.map (λkv=>(kV kv.1,kv.2))/\kvs.length<=15/\Q (.ref p) (aE H2 p (.dK (oF [] kvs)))
theorem Dr{pos:Pos}{keys:List (Option Expr)}{values:LM}{trs:List (TE×TE)}(h:GM X pos keys values trs)(hall:keys.all (·.isSome)=true)(hl:keys.length=values.length)(h0:keys≠[])
  (h15:keys.length<=15):PE X (.Dict keys values pos) (Bi trs):=by
 intro b s σ H Q I q;have r:=I.hok.fresh (K4 s.heap.objs.size);have B:=I.laid (a:=s.heap.objs.size) (o:=.dK []) (h':=s.heap.push {cls:=.type "dict",data:=.dict #[]}) (t':=s.toks) (λ_ _ q=>KC _ q) (K4 _) (uM s.heap I.big);refine wpAny_Dict_walk (knd:=b5 X.prog X.w) hall hl h0 h15 (cz (h b _ σ _ _ B (q _ r)) λws s2 ⟨ps,H2,j,i,e,d,x,lk,m⟩=>?_);subst x;obtain⟨k,c,rk⟩:=ol (P:=X.prog) (w:=X.w) i;obtain⟨z,v,vs0,l,y⟩:=qY j.hok e;cases l;refine⟨k,c,y,λh' g p=>⟨.ref s.heap.objs.size,_,?_,rfl,m⟩⟩;have n:(oF [] d).length<=sizeLine:=by
  have h1:=jz d [];rw[List.length_nil]at h1;rw[q0W];omega
 have u:∃q,h'.get? s.heap.objs.size=some q:=let ⟨q,_,_,hq,_⟩:=g;⟨q,hq⟩
 exact m8 j (by rw[e];exact True.intro) p u (vL n v (rk.merge .nil) g)
structure M1(X:Cx)(o:Expr)(m:Str)(apos:Pos)(e:Expr)(cpos:Pos):Prop where
 base:attributeBase o m X.env (eval o X.env)=eval o X.env
 few:((backTo cpos (starEach [e] X.env)).all (λx=>!x.1)&&(backToKw cpos (keywordEach [] X.env)).all (λx=>x.1.isSome)
  && decide (([e]:List Expr).length+([]:List Keyword).length+(if([]:List Keyword).isEmpty then 0 else 1)<30))=true
 line:(apos.endLine==cpos.line)=true
 trees:backTo cpos (starEach [e] X.env)=[(false,eval e X.env)]
structure M2(X:Cx)(o:Expr)(m:Str)(apos:Pos)(e f:Expr)(cpos:Pos):Prop where
 base:attributeBase o m X.env (eval o X.env)=eval o X.env
 few:((backTo cpos (starEach [e,f] X.env)).all (λx=>!x.1)&&(backToKw cpos (keywordEach [] X.env)).all (λx=>x.1.isSome)
  && decide (([e,f]:List Expr).length+([]:List Keyword).length+(if([]:List Keyword).isEmpty then 0 else 1)<30))=true
 line:(apos.endLine==cpos.line)=true
 trees:backTo cpos (starEach [e,f] X.env)=[(false,eval e X.env),(false,eval f X.env)]
def Hc(H:Hp)(a:Addr):Prop:=(∃kvs,Rd H a (.dK kvs))\/∃kvs,Rd H a (.dT kvs)
theorem vQ{pins:Lz}{σ:St}(I:Inv X pins σ H s)(d:Hc H a) :
  s.TypeIs (.ref a) "dict"/\(∀b,Value.ref a=.ref b->∃ob,s.heap.get? b=some ob/\ob.dict=none)/\(a==sysModules)=false:=by
 rcases d with⟨g,e⟩ | ⟨g,e⟩
 ·obtain⟨_,i,vs,_,c⟩:=mn I.hok e
  refine⟨c.typeIs,λb q=>?_,i⟩;cases q;obtain⟨ob,_,_,h1,h2,_⟩:=c;exact⟨ob,h1,h2.2.1⟩
 ·obtain⟨_,i,xs,_,c⟩:=ke I.hok e
  refine⟨c.typeIs,λb q=>?_,i⟩;cases q;obtain⟨ob,_,_,h1,h2,_⟩:=c;exact⟨ob,h1,h2.2.1⟩
section
variable {X:Cx}{pins:Lz}{σ:St}{H:Hp}{s:LB}{a:Addr}{y d:V}{u r:Value}{o:Option V}{A:LJ}{E:Lx}
theorem Fx{Q:Lx}(hu:A.units+1<cLine)(I:Inv X pins σ H s)(g:jr H a y o)(ry:bH y u)(rd:bH d r)(h:∀w' s',Inv X pins σ H s'->bH (o.getD d) w'->Q w' s') :
  wpAny (model X.prog X.w) A (call (.builtin "dict.get") [.ref a,u,r]) Q E s:=by
 rcases g with⟨j,k,e,n,l⟩ | ⟨j,k,b,e,n,q,l⟩
 ·subst n
  obtain⟨z,m,vs,c,i⟩:=mn I.hok e;refine call_meetsIn PySem.F.slot_dict_get i.typeIs PySem.F.entry_dict_get (PySem.F.args_dict_get_3 _ _ _) (meets_dict_get_default (b5 X.prog X.w) a (my ry) m r) ⟨_,i.mapOf,h _ _ (I.tok _) ?_⟩;rw[l];exact(c.val k).getD rd
 ·subst n
  cases(show u=Value.ref b from ry);obtain⟨z,m,p,c,i⟩:=ke I.hok e;refine call_meetsIn PySem.F.slot_dict_get i.typeIs PySem.F.entry_dict_get (PySem.F.args_dict_get_3 _ _ _) (meetsH_dict_get_default (tupleKind (b5 X.prog X.w)) a b m r) ⟨tupleKind_room_in1 hu,k,p,lU I.hok q,i,h _ _ (I.tok _) ?_⟩;rw[l];exact(c.val k).getD rd
end
def wc(td ty tx:TE):TE:=λσ H Q=>td σ H λx H1=>∃a,x=.ref a/\Hc H1 a/\ty σ H1 λy H2=>tx σ H2 λz H3=>∃o,jr H3 a y o/\Q (o.getD z) H3
section
variable {X:Cx}{o e f:Expr}{apos cpos:Pos}{td ty tx:TE}
theorem Bd(hu:X.A.units+1<cLine)(ho:PE X o td)(he:PE X e ty)(hf:PE X f tx)(m:M2 X o "get" apos e f cpos):PE X (.Call (.Attribute o "get" apos) [e,f] [] cpos) (wc td ty tx):=by
 intro b s σ H Q I h;refine wpAny_Call_method m.base m.few m.line PySem.F.plainAttrs_dict PySem.F.slot_dict_get PySem.F.type_dict_get (cz (ho b s σ H _ I h) λu n ⟨x,H1,i,r,a,C,d,B⟩=>?_);subst C;obtain rfl:u=Value.ref a:=r;obtain⟨k,j,_⟩:=vQ i d;refine⟨k,j,?_⟩;rw[m.trees];refine Calls.callWith_builtin rfl (Calls.evalArgs_plain (Calls.spliced_cons (cz (he b n σ H1 _ i B) λiv l ⟨y,H2,J,q,w⟩=>
  Calls.spliced_cons (cz (hf b l σ H2 _ J w) λfv s3 ⟨z,L,G,p,ov,g,v⟩=>Calls.spliced_nil ?_))))
 exact Fx hu G g q p λw' s4 D c=>⟨_,L,D,c,v⟩
end
end L2
namespace Att
open PySem PySem.W PySem.Calls PyProof.Rows
theorem mz:∀(ns:List Int) (vs:LC),WellAll P h vs (ns.map WData.int)->IntsAre vs ns:=by
 intro ns
 induction ns with
 |nil=>
  intro vs w;rw[List.map_nil]at w;cases w;exact .nil
 |cons n ns ih=>
  intro vs w;rw[K_]at w;cases w with
  |cons a b=>
   cases a;exact .cons _ _ (ih _ b)
theorem yt{l:OpenLaw}{n:Nat}(hn:l.most=some n){P:Params}{h:Heap}{args:List WData}{vals:LC}
  (hpre:l.row.toRowW.claim.pre args=true) (hwl:WellAll P h vals args) :
  ∃a vs ns,vals=[Value.ref a]/\args=[WData.list (ns.map WData.int)]/\h.get? a=some {cls:=.type "list",data:=.seq vs.toArray}/\IntsAre vs ns/\ns.length<=n:=by
 have g:WShape.hasAll [] args [.list .int]=true:=(pre_splitW hpre).1;have i:l.pre.holds [] {args:=args}=true:=(pre_splitW hpre).2;obtain⟨d,r,rfl,h1,h2⟩:=hasAllW_cons g;obtain rfl:=hasAllW_nil h2;obtain⟨xs,rfl,k⟩:=hasW_list h1;obtain⟨ns,rfl⟩:=items_int k;have b:ns.length<=n:=by
  unfold OpenLaw.pre at i;have e:(WTm.not (.lt (.lit (.int (n:Int))) (.len (.arg 0)))).holds [] {args:=[.list (ns.map .int)]}=true:=by
   have e:=(holds_andW i).1;rw[hn]at e;exact e
  have c:=condW_of e (w_not (w_lt w_lit (w_len_list (w_arg rfl))));rw[KD]at c;refine Nat.le_of_not_lt λq=>?_;have j:(n:Int)<((ns.length:Nat):Int):=by omega
  first
   | (rw[q09 j]at c;exact q0Q c (by decide))
   | (simp at c;omega)
 cases hwl with
 |cons w1 w2=>
  cases w2;cases w1 with
  |list ho hall=>exact⟨_,_,ns,rfl,rfl,ho,mz ns _ hall,b⟩
theorem yV(l:OpenLaw)(args:List WData):l.row.toRowW.claim.post args (.bool true) args=true:=
 postW_of (r:=l.row.toRowW) (X:=(true==true))
  (show WShape.has [] (.bool true) .bool=true by first | rfl | decide | simp[WShape.has,WShape.arms,WShape.armsAll])
  (show(WTm.eq .res (.lit (.bool true))).value [] {args:=args,res:=some (.bool true),after:=args}=some (.bool (true==true)) from w_eq_bool (w_res rfl) w_lit) rfl
theorem attach_call{l:OpenLaw}{n:Nat}{loose:LI}{XP:(Str->Option Value)->Heap->Prop}{YP:World->Heap->Prop}{d:DefRec}
  (hn:l.most=some n) (hdf:d.params.defaults=[])
  (call:∀(w:LK) (s₀ s₁:LB) (mg mb:LF) (fa:Addr) (o:Obj) (pm cd doc:Value) (a:Addr) (vs:LC) (ns:List Int),
   Ground q loose [] XP w s₀ mg mb s₁.heap->YP w s₁.heap ->
   s₁.heap.get? fa=some o->o.data=.func (docDef d.name d.params d.body d.scope pm cd doc)->s₁.heap.CodeRec cd d.name->mg d.name=some (.ref fa) ->
   s₁.heap.get? a=some {cls:=.type "list",data:=.seq vs.toArray}->IntsAre vs ns->ns.length<=n->s₁.gens=#[] ->
   codeAny (model l.prog w) callerA (.call (.ref fa) ⟨[.ref a],[]⟩) (λr s'=>r=.ok (.ret (.bool true))/\OldK s₁.heap s'.heap/\s'.os=s₁.os/\AllBare s'.gens) s₁) :
  WalkO q loose XP YP l.row.toRowW d [] (λf vs=>PySem.call f vs):=by
 intro w s₀ s₁ mg mb G Y fa o pm cd doc C kV u y k m j x args vals as c hlay hrd i hlo;obtain rfl:C=.none:=Dflts.none m hdf;obtain rfl:kV=.none:=Dflts.noKw m;obtain⟨a,vs,ns,rfl,rfl,e,b,g⟩:=yt hn c i;refine enter_call (codeAny_mono (call w s₀ s₁ mg mb fa o pm cd doc a vs ns G Y u (fd_plain y) k j e b g x) λr s' p=>?_);obtain⟨rfl,h2,B,z⟩:=p;exact⟨.inl ⟨.bool true,.bool true,[],rfl,λ_=>rfl,.bool true,yV l _,λ_=>⟨List.Pairwise.nil,λ_ v=>(nomatch v)⟩⟩,h2,B,z⟩
section
variable {prog:LH}{w:LK}{A:LJ}{E:Lx}{s:LB}{K:Frag}
end
end Att
namespace L2
open PySem PySem.Spec PyProof.Rows
theorem qH:∀{vs:LC} {ns:List Int},IntsAre vs ns->bx (ns.map V.int) vs
 |_,_,.nil=>.nil
 |_,_,.cons n t h=>.cons ⟨t,rfl⟩ (qH h)
def EG(H:Hp):Prop:=∀b,H b=none\/∃o xs,H b=some (.frz o (.lst xs))
theorem B9{K:Ly}{mg mb:LF}{CX:j6}{fa a:Addr}{x:Str}{sp:Sp}{s₁:LB}{vs:LC}{ns:List Int}
  (KX:K.In s₁.heap) (hns:s₁.heap.Ns mainGlobals mg) (hb:s₁.heap.Ns builtinsNs mb) (hbb:∀x:Str,x≠"__name__"->mb x=bootBuiltins x) (hlim:s₁.heap.NoLimit) (hg:s₁.gens=#[])
  (ha:s₁.heap.get? a=some {cls:=.type "list",data:=.seq vs.toArray}) (hi:IntsAre vs ns) (hl:ns.length<=sizeLine) (hr:c8 k callerA)
  (F:∀base:Heap,K.In base->base.Ns mainGlobals mg->bC P w K mg base CX k fa fd [x] sp) (hbind:∀(s:LB) (u:Value),BindsTo s fd ⟨[u],[]⟩ [(x,u)])
  (hsp:∀H:Hp,EG H->aN K H a (ns.map V.int)->sp [.ref a] H (λv _=>v=.bl true) λ_ _ _=>False)
  (hCX:∀H e s',CX [] H s₁ (λ_ _ _=>False) e s'->False) :
  codeAny (model P w) callerA (.call (.ref fa) ⟨[.ref a],[]⟩) (λr s'=>r=.ok (.ret (.bool true))/\OldK s₁.heap s'.heap/\s'.os=s₁.os/\AllBare s'.gens) s₁:=by
 have J:=qH hi;have l:=hi.length
 -- from an abstract heap in which nothing but the script may be tracked
 have i:∀H:Hp,EG H->aN K H a (ns.map V.int)->i4 P w H s₁.heap->(∀b,H b≠none->b=a)->(H a≠none->K.lookup a=none) ->
   codeAny (model P w) callerA (.call (.ref fa) ⟨[.ref a],[]⟩) (λr s'=>r=.ok (.ret (.bool true))/\OldK s₁.heap s'.heap/\s'.os=s₁.os/\AllBare s'.gens) s₁:=by
  intro H L Y y M hK;have c:∀{b:Addr} {o:Obj},s₁.heap.get? b=some o->H b=none->(sO s₁.heap H).get? b=some o:=λe n=>AI e n;have D:∀{b:Addr} {o:Obj} {es:Array DictEntry} {ep:Nat},s₁.heap.get? b=some o->o.data=.dict es ep->H b=none:=fun{b o es ep} e d=>by
   cases q:H b with
   |none=>rfl
   |some u=>
    have I:b=a:=M b (by rw[q];simp);subst I;rw[ha]at e;cases e
    have d':Data.seq vs.toArray _=Data.dict es ep:=d;cases d'
  have g:∀{b:Addr} {m:LF},s₁.heap.Ns b m->(sO s₁.heap H).Ns b m:=fun{b m} ⟨o,es,ep,e,d,r⟩=>⟨o,es,ep,c e (D e d),d,r⟩;have B:K.In (sO s₁.heap H):=λb o e=>c (KX b o e) (by
   cases q:H b with
   |none=>rfl
   |some u=>
    have I:b=a:=M b (by rw[q];simp);subst I;rw[hK (by rw[q];simp)]at e;cases e)
  have Z:Mod K mg (sO s₁.heap H):=⟨B,g hns,⟨mb,g hb,hbb⟩,let ⟨mc,h1,h2⟩:=hlim;⟨mc,g h1,h2⟩⟩;have e0:oy P w K mg (sO s₁.heap H) callerA [] s₁ H:=⟨rfl,Z,λb o e=>CZ e,Nat.le_of_eq (zP _ _),trivial,λb hb=>q0Q (show b∈([]:List Addr) from hb) (by simp),y,.of_eq hg⟩;refine codeAny_mono ((F _ B (g hns)).run callerA [] s₁ H ⟨[.ref a],[]⟩ [.ref a] [.ref a] _ _ hr e0 (hbind s₁ (.ref a)) (.cons rfl .nil) (hsp H L Y)) λr s' h=>?_;cases r with
  |error e=>exact(hCX H e s' h).elim
  |ok fl=>
   cases fl with
   |next=>exact False.elim h
   |brk=>exact False.elim h
   |cont=>exact False.elim h
   |ret u=>
    obtain⟨v,H',os,C,un,p,S,q⟩:=h;have T:v=.bl true:=q;subst T;obtain rfl:u=Value.bool true:=S;refine⟨rfl,OldK.of_keep λb o e=>?_,os,C⟩;cases q:H b with
    |none=>exact un.keep b o e q (by intro z;exact q0Q (show b∈([]:List Addr) from z) (by simp)) (by simp)
    |some u=>
     rcases L b with z | ⟨U,xs,z⟩
     ·rw[q]at z;cases z
     ·have R:=un.frzs b U _ z
      obtain⟨O,_⟩:=y b _ z;obtain⟨e2,_⟩:=p b _ R;rw[e]at O;cases O
      exact e2
 cases G:K.lookup a with
 |some o=>
  -- the script is one of the module's own objects
  have e:=KX a o G;rw[ha]at e;cases e;refine i (λ_=>none) (λ_=>.inl rfl) (.inr ⟨_,vs.toArray,_,G,rfl,rfl,rfl,by rw[KL,l];exact hl,by simpa using J⟩) (λb u z=>by have j:(none:Option HO)=some u:=z;cases j) (λb z=>q0Q rfl z) λz=>q0Q rfl z
 |none=>
  refine i (λb=>if b=a then some (.frz {cls:=.type "list",data:=.seq vs.toArray} (.lst (ns.map V.int))) else none) (λb=>?_) (.inl (.inr ⟨{cls:=.type "list",data:=.seq vs.toArray},q07 rfl⟩)) (λb u z=>?_) (λb z=>?_) λ_=>G
  ·by_cases hb:b=a
   ·exact .inr ⟨_,_,q07 hb⟩
   ·exact .inl (q06 hb)
  ·by_cases hb:b=a
   ·have j:=(q07 hb).symm.trans z
    cases j;subst hb;exact⟨ha,by rw[KD];exact hl,vs,_,J,ha⟩
   ·have j:=(q06 hb).symm.trans z
    cases j
  ·by_cases hb:b=a
   ·exact hb
   ·exact q0Q (q06 hb) z
theorem walk_of{l:PySem.W.OpenLaw}{n:Nat}{loose:LI}{XP:(Str->Option Value)->Heap->Prop}{YP:World->Heap->Prop}{d:DefRec}{K:Params->PySem.W.Frag}{CX:World->j6}{sp:World->Sp}{x:Str}
  (hn:l.most=some n) (hn2:n<=sizeLine) (hdf:d.params.defaults=[]) (hr:c8 k callerA)
  (hY:∀(w:LK) (h:Heap),YP w h->(K w.params).In h)
  (F:∀(w:LK) (mg:LF) (fa:Addr) (h:Heap),(K w.params).In h->h.Ns mainGlobals mg->mg d.name=some (.ref fa) ->
   ∃fd:FuncData,(∀(s:LB) (u:Value),BindsTo s fd ⟨[u],[]⟩ [(x,u)]) /\
    ∀base:Heap,(K w.params).In base->base.Ns mainGlobals mg->bC l.prog w (K w.params) mg base (CX w) k fa fd [x] (sp w))
  (hsp:∀(w:LK) (H:Hp) (a:Addr) (ns:List Int),ns.length<=n->EG H->aN (K w.params) H a (ns.map V.int)->sp w [.ref a] H (λv _=>v=.bl true) λ_ _ _=>False)
  (hCX:∀(w:LK) (H:Hp) (s:LB) (e:Value) (s':LB),CX w [] H s (λ_ _ _=>False) e s'->False) :
  PySem.W.WalkO q loose XP YP l.row.toRowW d [] (λf vs=>PySem.call f vs):=by
 refine Att.attach_call hn hdf λw s₀ r mg mb fa o pm cd doc a vs ns G Y ho hd hcd m j i c y=>?_;have p:=hY w _ Y;obtain⟨fd,z,D⟩:=F w mg fa _ p G.T.g m;exact B9 p G.T.g G.T.b G.T.builtins G.T.nolimit y j i (K' c hn2) hr D z (λH C B=>hsp w H a ns c C B) λH e s'=>hCX w H r e s'
def dS(s:Stmt):Arguments:=match s with
 | .FunctionDef _ a _ _ _ _ _ _ _ _=>a
 |_=>{posonlyargs:=[],args:=[],vararg:=none,kwonlyargs:=[],kw_defaults:=[],kwarg:=none,defaults:=[]}
def dB(s:Stmt):List Stmt:=match s with
 | .FunctionDef _ _ b _ _ _ _ _ _ _=>b
 |_=>[]
def ax(s:Stmt):Scope:=match s with
 | .FunctionDef _ _ _ _ _ _ sc _ _ _=>sc
 |_=>{kind:=.function,names:=[],isGenerator:=false,isCoroutine:=false}
abbrev bJ:j6:=λ_ _ _ _ _ _=>False
abbrev E0:XK:=λ_ _ _=>False
theorem aO:dF bJ X E0:=λ_ _ _ _ _ _ _ h=>h.elim
structure dw(K:Ly)(x qual:Str)(st:Stmt)(f:Addr)(fd:LG):Prop where
 ex:∃(oc:Value) (od:LL) (kV doc pm:Value) (an:LL) (cdv ct:Value) (osl:Array (Option Value)),
  fd=PySem.W.fnOf x qual (dS st) (dB st) (ax st) .none kV doc pm an cdv ct/\K.lookup f=some ⟨oc,od,.func fd,osl⟩/\PySem.W.codeIn K cdv qual=true
 kp:PySem.W.keepIn K (.ref f)=true
section
variable {P:LH}{w:LK}{K:Ly}{mg:LF}{base:Heap}
theorem dw.ok{qual:Str}{st:Stmt}{f:Addr}{ps:LI}{sp:Sp}(F:dw K x qual st f fd)(S:aI N ps (ax st))(len:∀vs H Q E,sp vs H Q E->vs.length=ps.length)
  (hbody:∀(cdv:Value) (A:LJ) (outer:List Env) (s:LB) (H:Hp) (vs:List V) (Q:VK) (E:XK),c8 k (A.deeper (envOfC qual (ax st) s.heap.objs.size f cdv))->sp vs H Q E ->
   ∃t,xu (uS bJ P w K mg base N qual (ax st) f cdv A outer s H E).nox (dB st) t/\t {nx:=λ_ H'=>Q .non H',rt:=Q} (start N vs) H):↑bC (k+1) f fd ps sp:=by
 obtain⟨oc,od,kV,doc,pm,an,cdv,ct,osl,rfl,c,b⟩:=F.ex;refine Gz c b S len λA outer s H vs Q E hr a=>?_;obtain⟨t,h,q⟩:=hbody cdv A outer s H vs Q E hr a;exact⟨t,h.nox,q⟩
theorem dw.binds{qual:Str}{st:Stmt}{f:Addr}{ps:LI}(F:dw K x qual st f fd)
  (h:∀(kV doc pm:Value) (an:LL) (cdv ct:Value) (us:LC),us.length=ps.length->bindArgs (PySem.W.fnOf x qual (dS st) (dB st) (ax st) .none kV doc pm an cdv ct) ⟨us,[]⟩=pure (ps.zip us)):dQ K fd ps []:=by
 obtain⟨oc,od,kV,doc,pm,an,cdv,ct,osl,rfl,lk,hcd⟩:=F.ex;exact .all (h kV doc pm an cdv ct)
theorem dh{qual:Str}{st:Stmt}{f:Addr}{oc:Value}{od an:LL}{osl:Array (Option Value)}{kV doc pm cdv ct:Value}(l:K.lookup f=some ⟨oc,od,.func (PySem.W.fnOf x qual (dS st) (dB st) (ax st) .none kV doc pm an cdv ct),osl⟩)
  (c:PySem.W.codeIn K cdv qual=true) (k:PySem.W.keepIn K (.ref f)=true):dw K x qual st f (PySem.W.fnOf x qual (dS st) (dB st) (ax st) .none kV doc pm an cdv ct):=⟨⟨oc,od,kV,doc,pm,an,cdv,ct,osl,rfl,l,c⟩,k⟩
end
section
variable {X:Cx}
theorem pv(i:Nat){x:Str}{pos:Pos}(hN:autoParam (X.N[i]?=some x) zz0._auto_1)(hv:autoParam (GO X.env.scope x) zz6._auto_1)(hd:autoParam ((x==("__debug__":Str))=false) zz1._auto_1)
  (hcd:autoParam ((x==("__classdict__":Str))=false) zz1._auto_1):PE X (.Name x pos) (Ci i):=EJ hN hv hd hcd
theorem zB:d0 X (.builtin "len") (λxs H Q=>∃a kvs,xs=[V.ref a]/\H a=some (.dK kvs)/\Q (.int kvs.length) H):=by
 intro pins s σ H xs us Q I r h;obtain⟨a,kvs,rfl,c,q⟩:=h;obtain⟨u,rfl,b⟩:=mw r;cases b;exact Gp I (.inl c) λt s' d=>⟨.int kvs.length,H,d,⟨t,rfl⟩,q⟩
end
def aD(H H':Hp):Prop:=∀b o,H b=some o->H' b=some o
theorem aD.refl(H:Hp):aD H H:=λ_ _ h=>h
theorem aD.trans{H1 H2:Hp}(a:aD H H1)(b:aD H1 H2):aD H H2:=λc o h=>b c o (a c o h)
theorem aD.free(e:aD H H'){l:Addr}(h:H' l=Option.none):H l=Option.none:=by
 cases q:H l with
 |none=>rfl
 |some o=>
  rw[e l o q]at h;cases h
theorem aD.seq{K:Ly}(e:aD H H')(h:aN K H a xs):aN K H' a xs:=by
 rcases h with(h | ⟨o,h⟩) | h
 ·exact .inl (.inl (e _ _ h))
 ·exact .inl (.inr ⟨o,e _ _ h⟩)
 ·exact .inr h
section
variable {κ:Type}[DecidableEq κ]
theorem A0{kvs:List (κ×V)}{k:κ}(h:dL kvs k=none):¬ k∈kvs.map (·.1):=by
 intro m;obtain⟨p,b,e⟩:=Lm.mp m;have q:(kvs.any λa=>decide (a.1=k))=true:=List.any_eq_true.mpr ⟨p,b,q09 e⟩;rw[gU,h]at q;exact q0Q q (by simp)
end
end L2
namespace PySem
open Sem (wp)
open Builtin Builtin.Str Builtin.Int
namespace F
theorem kU:Manifest.owners.lookup "reversed"=some Manifest.sig_reversed:=by kernel_rfl
theorem slot_rvs_next:Slot "reversed" "__next__" "reversed.__next__":=
 .of (owner:="reversed") (n:="__next__") (by rw[typeLookup_type,builtinLookup_eq_fast];kernel_rfl) (by decide +kernel) (by decide +kernel) (by decide +kernel)
  (by first | exact .inl (by decide +kernel) | exact .inr (by decide +kernel)) (by rw[isSubtype_type];kernel_rfl)
theorem entry_rvs_next:entryFor table "reversed.__next__"=some Builtin.«reversed.__next__»:=entryFor_of_tree (by kernel_rfl)
theorem slot_rvs_iter:Slot "reversed" "__iter__" "reversed.__iter__":=
 .of (owner:="reversed") (n:="__iter__") (by rw[typeLookup_type,builtinLookup_eq_fast];kernel_rfl) (by decide +kernel) (by decide +kernel) (by decide +kernel)
  (by first | exact .inl (by decide +kernel) | exact .inr (by decide +kernel)) (by rw[isSubtype_type];kernel_rfl)
theorem nolen_rvs:typeLookup (.type "reversed") "__len__"=pure none:=by rw[typeLookup_type,builtinLookup_eq_fast];kernel_rfl
theorem hint_rvs:typeLookup (.type "reversed") "__length_hint__"=pure (some (.builtin "reversed.__length_hint__")):=by rw[typeLookup_type,builtinLookup_eq_fast];kernel_rfl
theorem args_rvs_next_1(a:Value):argsOk "reversed.__next__" ⟨[a],[]⟩:=by
 unfold argsOk;rw[signature?_of (id:="reversed.__next__") (n:=['_','_','t','x','e','n','_','_']) (o:=['d','e','s','r','e','v','e','r']) (by kernel_rfl) kU];kernel_rfl
theorem args_rvs_iter_1(a:Value):argsOk "reversed.__iter__" ⟨[a],[]⟩:=by
 unfold argsOk;rw[signature?_of (id:="reversed.__iter__") (n:=['_','_','r','e','t','i','_','_']) (o:=['d','e','s','r','e','v','e','r']) (by kernel_rfl) kU];kernel_rfl
theorem entry_rvs_iter:entryFor table "reversed.__iter__"=some Builtin.«dict_keyiterator.__iter__»:=
 entryFor_alias (id':="dict_keyiterator.__iter__") (by kernel_rfl) (by first | rfl | decide +kernel | (unfold String.splitOn;simp +decide [String.splitOnAux])) (by decide +kernel) (by kernel_rfl)
theorem slot_rvs_hint:Slot "reversed" "__length_hint__" "reversed.__length_hint__":=
 .of (owner:="reversed") (n:="__length_hint__") (by rw[typeLookup_type,builtinLookup_eq_fast];kernel_rfl) (by decide +kernel) (by decide +kernel) (by decide +kernel)
  (by first | exact .inl (by decide +kernel) | exact .inr (by decide +kernel)) (by rw[isSubtype_type];kernel_rfl)
theorem entry_rvs_hint:entryFor table "reversed.__length_hint__"=some Builtin.«reversed.__length_hint__»:=entryFor_of_tree (by kernel_rfl)
theorem args_rvs_hint_1(a:Value):argsOk "reversed.__length_hint__" ⟨[a],[]⟩:=by
 unfold argsOk;rw[signature?_of (id:="reversed.__length_hint__") (n:=['_','_','t','n','i','h','_','h','t','g','n','e','l','_','_']) (o:=['d','e','s','r','e','v','e','r']) (by kernel_rfl) kU];kernel_rfl
end F
section
variable {prog:LH}{w:LK}{A:LJ}{E:Lx}{s:LB}
def wj(x:Str)(t:Tok)(i:Int):Obj:={cls:=.type "reversed",data:=.fields #[.str x t,rawInt i]}
def Heap.IsRvs(h:Heap)(a:Addr)(x:Str)(t:Tok)(i:Int):Prop:=∃o,h.get? a=some o/\o.cls=.type "reversed"/\o.data=.fields #[.str x t,rawInt i]
theorem Heap.IsRvs.typeIs{t:Tok}(y:s.heap.IsRvs a x t i):s.TypeIs (.ref a) "reversed":=let ⟨o,ho,hc,_⟩:=y;⟨o,ho,hc⟩
theorem Heap.IsRvs.at{h h':Heap}{t:Tok}(y:h.IsRvs a x t i)(e:∀o,h.get? a=some o->h'.get? a=some o):h'.IsRvs a x t i:=let ⟨o,ho,r⟩:=y;⟨o,e _ ho,r⟩
theorem iH{it:Addr}{t:Tok}{i c:Nat}{Q:Option Value->Shared->Prop}(hit:s.heap.IsRvs it x t (i:Int))(hx:x.cps[i]?=some c)(hsz:i<2 ^ 63)
  (hQ:∀h' tk tk',h'.IsRvs it x t ((i:Int)-1)->Heap.SameBut it s.heap h'->Q (some (.str ⟨#[c]⟩ tk)) {s with heap:=h',toks:=tk' }):wpAny b⁻¹ A (pyNext (.ref it)) Q E s:=by
 obtain⟨o,d,k,b⟩:=id hit;have g:i<x.length:=(Array.getElem?_eq_some_iff.mp hx).1;unfold pyNext;refine q04 (wpAny_attempt (wpAny_callSpecial?_slot (name:=Str.ofString "__next__") hit.typeIs F.slot_rvs_next
  (wpAny_call_entry F.slot_rvs_next hit.typeIs F.entry_rvs_next ?_ (F.args_rvs_next_1 _))))
 unfold Builtin.«reversed.__next__»;refine q04 (wpAny_of_eq (a:=(Value.ref it,[])) rfl ?_)
 try dsimp only
 refine q04 (wpAny_field d b (x:=.str x t) rfl ?_);refine q04 (wpAny_field d b (x:=rawInt (i:Int)) rfl ?_);show wpAny _ _ (if(i:Int)<0 then _ else _) _ _ s;rw[q06 ⋯];refine q04 (wpAny_specialOf (typeIs_str s x t) F.slot_str_getitem.lookup ?_)
 try dsimp only
 first
 |rw[q06 (show ¬ ((some (Value.builtin "str.__getitem__")).isNone=true) from K6)]
 |skip
 refine q04 (wpAny_mkInt ?_);refine q04 (wpAny_attempt ?_);have l:(seqIndex? (i:Int) x.length).bind (x.cps[·]?)=some c:=by
  have e:seqIndex? (i:Int) x.length=some i:=by
   have j:¬ ((i:Int)<0):=by omega
   unfold seqIndex?;simp[j,g]
  rw[e];exact hx
 refine P.getItem_str (c:=c) (by simp;omega) l ?_;dsimp only;refine q04 (wpAny_field d b (x:=rawInt (i:Int)) rfl ?_);show wpAny _ _ (setField (Value.ref it) 1 (rawInt ((i:Int)-1)) >>= λ_=>ret (Value.str ⟨#[c]⟩ _)) _ _ _;refine q04 (wpAny_setField d b (by simp) ?_);refine q05 ⟨_,rfl,q05 (hQ _ _ _ ?_ (Heap.SameBut.update ..))⟩;exact⟨_,KO _ d (Obj.isFreed_of_fields (Obj.data_mapFields b _)),(Obj.cls_mapFields ..).trans k,by
  rw[Obj.data_mapFields b];simp⟩
theorem iY{it:Addr}{t:Tok}{Q:Option Value->Shared->Prop}(hh:A.handled=none)(hit:s.heap.IsRvs it x t (-1))
  (hQ:∀h',Heap.ExtBut it s.heap h'->Q none {s with heap:=h' }):wpAny b⁻¹ A (pyNext (.ref it)) Q E s:=by
 obtain⟨o,d,hc,c⟩:=id hit;unfold pyNext;refine q04 (wpAny_attempt (wpAny_callSpecial?_slot (name:=Str.ofString "__next__") hit.typeIs F.slot_rvs_next
  (wpAny_call_entry F.slot_rvs_next hit.typeIs F.entry_rvs_next ?_ (F.args_rvs_next_1 _))))
 unfold Builtin.«reversed.__next__»;refine q04 (wpAny_of_eq (a:=(Value.ref it,[])) rfl ?_)
 try dsimp only
 refine q04 (wpAny_field d c (x:=.str x t) rfl ?_);refine q04 (wpAny_field d c (x:=rawInt (-1)) rfl ?_);show wpAny _ _ (if(-1:Int)<0 then _ else _) _ _ s;rw[q07 (by decide)];refine q04 (wpAny_rule ?_);show wpAny _ _ ((setField (Value.ref it) 1 (rawInt (-1)) >>= λ_=>setField (Value.ref it) 0 .none) >>= _) _ _ _;refine q04 (q04 (wpAny_setField d c (by simp) ?_));have e:=KO (Obj.mapFields (·.setIfInBounds 1 (rawInt (-1)))) d (Obj.isFreed_of_fields (Obj.data_mapFields c _));refine wpAny_setField e (Obj.data_mapFields c _) (by simp) ?_;dsimp only;show wpAny _ _ (SmallTypes.stopIteration >>= _) _ _ _;refine q04 ?_;unfold SmallTypes.stopIteration
 first
 |show wpAny _ _ (newExc (.type "StopIteration") [] >>= _) _ _ _
 | (refine q04 ?_;show wpAny _ _ (newExc (.type "StopIteration") [] >>= _) _ _ _)
 refine q04 ?_;simp only[newExc,newTuple];refine q04 (wpAny_newObj_type ?_ (by size_fits));refine q04 (m:=firstArgMember _ _) (wpAny_of_eq (a:=Value.none) (by first | rfl | (simp only[firstArgMember];rfl)) ?_);refine wpAny_newObj_type ?_ (by size_fits);simp only[raiseNew];refine q04 (wpAny_handled ?_)
 first | rw[show A.in1.handled=none from hh] | rw[hh]
 refine q04 (q05 (wpAny_throw ?_));refine q04 (wpAny_isInstance (T:="StopIteration") (b:=true) ⟨_,KJ _ rfl,rfl⟩ isSubtype_stop ?_);refine q05 (hQ _ ?_);intro b ob g i;exact KC _ (KC _ ((KI _ _ (Ne.symm g)).trans ((KI _ _ (Ne.symm g)).trans i)))
theorem gK{it:Addr}{t:Tok}{Q:Lx}(hit:s.heap.IsRvs it x t i)(h:Q (.ref it) s):wpAny b⁻¹ A (pyIter (.ref it)) Q E s:=by
 refine wpAny_pyIter_slot hit.typeIs F.slot_rvs_iter (wpAny_call_entry F.slot_rvs_iter hit.typeIs F.entry_rvs_iter ?_ (F.args_rvs_iter_1 _));show wpAny _ _ (ret (.ref it)) _ _ s;exact q05 ⟨_,rfl,"reversed",_,hit.typeIs,F.slot_rvs_next.lookup,h⟩
theorem hint_rvs{it:Addr}{t:Tok}{Q:Lx}(hit:s.heap.IsRvs it x t i)(hi:i<x.length)(hz:x.length<=sizeLine)
  (h:∀u tk,s.toks<=tk->Q (.int (i+1) u) {s with toks:=tk}):wpAny b⁻¹ A (call (.builtin "reversed.__length_hint__") [.ref it]) Q E s:=by
 obtain⟨o,b,hc,c⟩:=id hit;refine wpAny_call_entry F.slot_rvs_hint hit.typeIs F.entry_rvs_hint ?_ (F.args_rvs_hint_1 _);unfold Builtin.«reversed.__length_hint__»;refine q04 (wpAny_of_eq (a:=Value.ref it) rfl ?_);refine q04 (wpAny_field b c (x:=.str x t) rfl ?_);show wpAny _ _ (if(Value.str x t==Value.none)=true then _ else _) _ _ s;rw[q06 (show ¬ ((Value.str x t==Value.none)=true) from λz=>by cases(eq_of_beq z))];have hs:sizeLine=16777216:=q0W;refine q04 (P.len_str ⋯ ?_);refine q04 (m:=asInt? _) (q05 ?_);dsimp only;refine q04 (wpAny_field b c (x:=rawInt i) rfl ?_);show wpAny _ _ (if(x.length:Int)<i+1 then _ else _) _ _ _;rw[q06 ⋯];show wpAny _ _ (mkInt (i+1) >>= λv=>ret v) _ _ _;exact q04 (wpAny_mkInt (q05 ⟨_,rfl,h _ _ (by simp;omega)⟩))
theorem Walks.rvs{A:LJ}(hh:A.handled=none)(I:Addr)(x:Str)(t:Tok)(hz:x.length<=sizeLine) :
  Walks prog w A I [I] [I] x.length (λi v=>∃c tk,x.cps[x.length-1-i]?=some c/\v=.str ⟨#[c]⟩ tk) (λi h=>i<=x.length/\h.IsRvs I x t ((x.length:Int)-1-(i:Int))) where
 sub:=λb hb=>hb
 frame:=λ_ _ _ y hk=>⟨y.1,y.2.at λo e=>hk I (by simp) o e⟩
 item:=λi s Q E hi y hQ=>by
  have e:(x.length:Int)-1-(i:Int)=((x.length-1-i:Nat):Int):=by omega
  have a:=y.2;rw[e]at a;have hb:x.length-1-i<x.cps.size:=by have:x.length=x.cps.size:=rfl;omega
  have n:x.cps[x.length-1-i]?=some (x.cps[x.length-1-i]'hb):=Array.getElem?_eq_getElem hb;have hs:sizeLine=16777216:=q0W;refine iH a n ⋯ λl tk g d j=>?_;have p:((x.length-1-i:Nat):Int)-1=(x.length:Int)-1-((i+1:Nat):Int):=by omega
  rw[p]at d;exact hQ _ l g ⟨_,tk,n,rfl⟩ ⟨hi,d⟩ λb o hb m=>j.extBut b o (λh=>hb (by simp[h])) m
 done:=λs Q E y hQ=>by
  have e:(x.length:Int)-1-(x.length:Int) = -1:=by omega
  have a:=y.2;rw[e]at a;exact iY hh a λl k=>hQ l s.toks λb o hb m=>k b o (λh=>hb (by simp[h])) m
 self:=λ_ _ _ _ y hQ=>gK y.2 hQ
theorem ka{t:Tok}{Q:List Value->Shared->Prop}(hh:A.handled=none)(hit:s.heap.IsRvs I x t ((x.length:Int)-1))(hz:x.length<=sizeLine)
  (hQ:∀s' acc,Moved [I] (λa b=>b=a) s s'->ItemsOf (λi v=>∃c tk,x.cps[x.length-1-i]?=some c/\v=.str ⟨#[c]⟩ tk) acc x.length->Q acc.toList s'):wpAny b⁻¹ A (collect (.ref I)) Q E s:=by
 have W:=(Walks.rvs (prog:=prog) (w:=w) (A:=A.in1) hh I x t hz).toS;have hn:x.length<=sizeLine:=hz;have hst:(λi (s:LB)=>i<=x.length/\s.heap.IsRvs I x t ((x.length:Int)-1-(i:Int))) 0 s:=⟨K5 _,by simpa using hit⟩;have hT:∀i (s:LB),(i<=x.length/\s.heap.IsRvs I x t ((x.length:Int)-1-(i:Int)))->s.TypeIs (.ref I) "reversed":=λi s y=>y.2.typeIs;have hlt:I<s.heap.objs.size:=by obtain⟨o,ho,_⟩:=hit;exact K7 ho
 have hSI:s.heap.objs.size≠I:=λe=>La _ (e▸hlt);have hSf:s.heap.objs.size∉[I]:=λhm=>hSI (KF.mp hm);unfold collect;refine q04 (wpAny_runValue (codeAny_builtin F.entry_proto_collect ?_));rw[Around.under_plainId F.plain_proto_collect _];show wpAny _ A.in1 (newList [] >>= λl=>again (.builtin "list.__iadd__" ⟨[l,.ref I],[]⟩)) _ _ s;refine q04 (wpAny_newObj_type ?_);refine q05 ⟨plainId_quiet F.plain_list_iadd _,codeAny_builtin F.entry_list_iadd ?_⟩;rw[Around.under_plainId F.plain_list_iadd _];have hst₁:=W.frame 0 s (s.heap.push {cls:=.type "list",data:=.seq ([]:List Value).toArray}) s.toks hst (K4 _) λb _ o e=>KC _ e;have hS₁:(s.heap.push {cls:=.type "list",data:=.seq ([]:List Value).toArray}).get? s.heap.objs.size=some {cls:=.type "list",data:=.seq ([]:List Value).toArray}:=KJ _ rfl;have h1:Builtin.List.listSameRef (.ref s.heap.objs.size) (.ref I)=false:=by simp[Builtin.List.listSameRef,hSI]
 show wpAny _ A.in1 (Builtin.List.listExtendWith (.ref s.heap.objs.size) (.ref I) (.ref s.heap.objs.size)) _ _ _;unfold Builtin.List.listExtendWith;refine q04 (wpAny_typeOf (hT 0 _ hst₁) ?_);rw[q06 (by rw[h1];decide)];refine q04 (W.self 0 _ _ _ hst₁ ?_);refine q04 (q0Y ?_);unfold Builtin.List.listLengthHint;refine q04 (wpAny_specialOf (hT 0 _ hst₁) F.nolen_rvs ?_);show wpAny _ A.in1 (specialOf (Value.ref I) (Str.ofString "__length_hint__") >>= _) _ _ _;refine q04 (wpAny_specialOf (hT 0 _ hst₁) F.hint_rvs ?_)
 (generalize hid:("reversed.__length_hint__":String)=id0;(fail_if_success (clear hid id0));wp_delta;rw[show splitId id0=some ("reversed","__length_hint__") from by subst hid;decide +kernel];subst hid)
 refine q04 (wpAny_isInstance (b:=true) (hT 0 _ hst₁) (by rw[isSubtype_type];kernel_rfl) ?_);rw[q06 (show ¬ ((!true)=true) by decide)];dsimp only
 split
 ·rename_i hsil
  exact q0Q hsil (by decide +kernel)
 refine q04 (wpAny_rule ?_);refine q04 (wpAny_of_eq (F.slot_rvs_hint.bind _) ?_);dsimp only;refine q04 (wpAny_attempt ?_);refine hint_rvs (i:=(x.length:Int)-1-((0:Nat):Int)) hst₁.2 ⋯ hz λu tk htk=>?_;dsimp only;have hs:sizeLine=16777216:=q0W;have hk:Builtin.List.listTooLong (Int.toNat ((x.length:Int)-1-((0:Nat):Int)+1))=false:=by
  unfold Builtin.List.listTooLong;have e:Int.toNat ((x.length:Int)-1-((0:Nat):Int)+1)=x.length:=by omega
  rw[e]
  simpa using hz
 refine q04 (m:=asInt? (.int _ u)) (q05 ?_);dsimp only;have hfit:Builtin.List.listFitsIndex ((x.length:Int)-1-((0:Nat):Int)+1)=true:=by
  unfold Builtin.List.listFitsIndex;simp;omega
 rw[q06 (by rw[hfit];decide),q06 ⋯,q06 (by rw[hk];decide)];refine q05 ?_
 -- the loop,from a list that may have been touched
 have fin:∀(h₂:Heap) (c:Nat),(∀b o,b≠s.heap.objs.size->(s.heap.push {cls:=.type "list",data:=.seq ([]:List Value).toArray}).get? b=some o->h₂.get? b=some o) ->
   h₂.get? s.heap.objs.size=some {cls:=.type "list",data:=.seq ([]:List Value).toArray c} ->
   codeAny b⁻¹ A (.builtin "list.extend.loop" ⟨[.ref s.heap.objs.size,.ref I,.ref s.heap.objs.size],[]⟩) (λr s'=>match r with
    | .ok (.ret v)=>wpAny b⁻¹ A (match v with
     | .ref a=>do
      let __do_lift <- load a
      match __do_lift.data with
       | .seq xs _=>pure xs.toList
       |_=>unsupported "internal:collect"
     |_=>unsupported "internal:collect") Q E s'
    | .ok _=>False
    | .error e=>E e s') {s with heap:=h₂,toks:=tk}:=λh₂ c keep hS₂=>by
  have hst₂:(λi (s:LB)=>i<=x.length/\s.heap.IsRvs I x t ((x.length:Int)-1-(i:Int))) 0 {s with heap:=h₂,toks:=tk}:=⟨K5 _,hst₁.2.at λo e=>keep I o (Ne.symm hSI) e⟩;refine codeAny_extend_loopS W hn _ hSf _ x.length 0 _ _ _ rfl (K5 _) hst₂ hS₂ (ItemsOf.nil _) λs' acc' c' hm hS' hacc=>?_;show wpAny _ A (load s.heap.objs.size >>= _) _ _ s';refine q04 (wpAny_load hS' ?_);refine q05 (hQ s' acc' ?_ hacc);exact⟨λb ob hb e=>hm.heap b ob (λhm'=>by
    rcases KU.mp hm' with e1 | hm'
    ·exact q0Q (e1▸K7 e) (La _)
    ·exact hb hm') (keep b ob (λe1=>q0Q (e1▸K7 e) (La _)) (KC _ e)),hm.gens,hm.drawn,hm.os,K' htk hm.toks⟩
 have quiet:=plainId_quiet F.plain_extend_loop (⟨[.ref s.heap.objs.size,.ref I,.ref s.heap.objs.size],[]⟩:Args)
 split
 ·refine q04 (wpAny_rule ?_)
  show wpAny _ A.in1 ((updateSeq s.heap.objs.size (·.push .none) >>= λ_=>updateSeq s.heap.objs.size (·.pop)) >>= _) _ _ _;refine q04 (q04 (wpAny_updateSeq hS₁ rfl ?_ (by simp) (by simp)));have q1:=PySem.IsL.update (h:=s.heap.push {cls:=.type "list",data:=.seq ([]:List Value).toArray}) (l:=s.heap.objs.size) (items:=([]:List Value).toArray) (n:=0) hS₁ (·.push .none);refine wpAny_updateSeq q1 rfl ?_ (by simp;omega) (by simp);have q2:=PySem.IsL.update q1 (·.pop);exact q05 ⟨quiet,fin _ _ (λb o hb e=>(KI _ _ (Ne.symm hb)).trans ((KI _ _ (Ne.symm hb)).trans e)) (show _=some ({cls:=.type "list",data:=.seq ([]:List Value).toArray _}:Obj) from q2)⟩
 ·exact q05 ⟨quiet,fin _ _ (λb o hb e=>e) hS₁⟩
theorem Ch{sep:Str}{t:Tok}{Q:Lx}(hh:A.handled=none)(hit:s.heap.IsRvs I x t ((x.length:Int)-1))(hz:x.length<=1000)(hsep:sep.length<=1000)
  (h:∀(s':LB) (t':Tok) (k:Nat),(∀b o,b≠I->s.heap.get? b=some o->s'.heap.get? b=some o)->s'.gens=s.gens->s'.drawn=s.drawn->s'.os=s.os ->
   Q (.str (Txt.join sep (x.cps.toList.reverse.map λc=>(⟨#[c]⟩:Str))) t') {s' with toks:=k}):wpAny b⁻¹ A (call (.builtin "str.join") [.str sep t0,.ref I]) Q E s:=by
 have hs:sizeLine=16777216:=q0W;refine wpAny_call (codeAny_call_builtin F.slot_str_join.plain F.entry_str_join (F.slot_str_join.check _ _ _ _ _ _ _ _ (typeIs_str _ _ _) (F.args_str_join_2 _ _) ?_));rw[join_tree_other];refine q04 (wpAny_typeOf hit.typeIs ?_);show wpAny _ A.in1 ((pyIter (.ref I)).tryCatch _ >>= λT=>collect T >>= λm=>joinTail sep m) _ _ s;refine q04 (wpAny_tryCatch (gK hit ?_));refine q04 (ka hh hit ⋯ λs' u B d=>?_);obtain⟨l,C⟩:=exists_strValues u.toList λv U=>by
  obtain⟨j,D,rfl⟩:=Array.mem_iff_getElem.mp (Array.mem_toList_iff.mp U);obtain⟨c,S,_,e⟩:=d.2 j _ (Array.getElem?_eq_getElem D);exact⟨_,_,e⟩
 have n:l.map (·.1)=x.cps.toList.reverse.map λc=>(⟨#[c]⟩:Str):=by
  have Z:l.length=x.length:=by
   have q:=q0R List.length C;simp[strValues]at q;rw[q];exact d.1
  refine List.ext_getElem (by simp[Z];rfl) λj h1 h2=>?_;simp only[List.getElem_map,List.getElem_reverse];have D:j<l.length:=by simpa using h1
  have Y:u.toList[j]?=some (Value.str (l[j]).1 (l[j]).2):=by
   rw[<- C];simp[strValues,D]
  have L:u[j]?=some (Value.str (l[j]).1 (l[j]).2):=by simpa using Y
  obtain⟨c,S,R,e⟩:=d.2 j _ L
  injection e with O _
  rw[O];have J:x.length-1-j<x.cps.size:=by have:x.length=x.cps.size:=rfl;omega
  rw[Array.getElem?_eq_getElem J]at R;have G:=q0S R;rw[<- G];simp only[Array.length_toList,Array.getElem_toList]
  rfl
 rw[<- C];have i:JoinOk sep (l.map (·.1))=true:=by
  unfold JoinOk;rw[StrLaws.joinTotal];have O:((l.map (·.1)).map (·.length)).sum=x.length:=by
   rw[n,KS];have:((λy:Str=>y.length)∘λc=>(⟨#[c]⟩:Str))=λ_=>1:=by funext c;rfl
   rw[this,List.map_const',List.sum_replicate_nat];simp
   rfl
  have e2:(l.map (·.1)).length=x.length:=by rw[n];simp;rfl
  rw[O,e2];have:x.length*sep.length<=1000*1000:=Nat.mul_le_mul hz hsep;unfold tooLong;rw[q08 ⋯]
  rfl
 have a:=λt' k=>h s' t' k (λb o J e=>B.heap b o (λz=>J (KF.mp z)) e) B.gens B.drawn B.os;unfold JoinOk at i;rw[Bool.not_eq_true']at i;have g:Gives (joinTail sep (strValues l)) (joinMade sep l):=by
  have M:=gives_joinTail sep l i;cases l with
  |nil=>exact M
  |cons p r=>cases r with
   |nil=>exact M
   |cons q r'=>exact M
 rw[<- n]at a;exact g prog w A (wants Q E) s' (post_join l ⟨joinFit_length i,a⟩)
end
namespace F
theorem qf:Slot "reversed" "__init__" "object.__init__":=
 .of (owner:="object") (n:="__init__") (by rw[typeLookup_type,builtinLookup_eq_fast];kernel_rfl) (by decide +kernel) (by decide +kernel) (by decide +kernel)
  (by first | exact .inl (by decide +kernel) | exact .inr (by decide +kernel)) (by rw[isSubtype_type];kernel_rfl)
theorem xH:mroOf (.type "reversed")=pure [.type "reversed",.type "object"]:=by rw[mroOf_type];kernel_rfl
theorem ph:typeLookup (.type "reversed") "__new__"=pure (some (.builtin "reversed.__new__")):=by rw[typeLookup_type,builtinLookup_eq_fast];kernel_rfl
theorem rvs_called:TypeCalled "reversed" "reversed.__new__" "object.__init__":=
 ⟨by decide +kernel,by decide +kernel,⟨_,_,xH⟩,madeBy_type xH ph (by decide +kernel),by decide +kernel,by rw[isSubtype_type];kernel_rfl,qf⟩
theorem rvs_typeCall_1(a:Value):checkTypeCall "reversed" ⟨[a],[]⟩=pure ():=by kernel_rfl
theorem rvs_newCall_1(a:Value):checkBuiltinCall "reversed.__new__" ⟨[.type "reversed",a],[]⟩=pure ():=by kernel_rfl
theorem rvs_entry_new:entryFor table "reversed.__new__"=some Builtin.«reversed.__new__»:=entryFor_of_tree (by kernel_rfl)
theorem rvs_sub:isSubtype (.type "reversed") (.type "reversed")=pure true:=by rw[isSubtype_type];kernel_rfl
theorem rvs_nostr:typeLookup (.type "str") "__reversed__"=pure none:=by rw[typeLookup_type,builtinLookup_eq_fast];kernel_rfl
end F
section
variable {prog:LH}{w:LK}{A:LJ}{E:Lx}{s:LB}
theorem tO(a:Value):Builtin.SmallTypes.newClass "reversed" ⟨[.type "reversed",a],[]⟩=pure (.type "reversed",[a]):=by
 unfold Builtin.SmallTypes.newClass;simp only[isType,F.rvs_sub,pure_bind,Bool.not_true,q0a,if_false]
theorem pN(x:Str)(t:Tok)(hz:x.length<=sizeLine):Meets (Builtin.«reversed.__new__» ⟨[.type "reversed",.str x t],[]⟩)
  (λ_ R s=>R (.ok (.ret (.ref s.heap.objs.size))) {s with heap:=s.heap.push (wj x t ((x.length:Int)-1)),toks:=s.toks+1+1}):=
 .of_wp λprog w A R s h=>by
  have hs:sizeLine=16777216:=q0W;unfold Builtin.«reversed.__new__»;refine q04 (wpAny_of_eq (tO _) ?_)
  try dsimp only
  refine q04 (wpAny_of_eq (a:=()) (by first | rfl | kernel_rfl) ?_);refine q04 (wpAny_of_eq (a:=()) (by first | rfl | kernel_rfl) ?_)
  try dsimp only
  refine q04 (wpAny_specialOf (typeIs_str s x t) F.rvs_nostr ?_)
  try dsimp only
  refine q04 ?_;refine q04 (wpAny_isInstance (T:="str") (b:=false) (typeIs_str s x t) (by rw[isSubtype_type];kernel_rfl) ?_);rw[q06 (by decide)];refine q04 (wpAny_specialOf (typeIs_str s x t) F.slot_str_getitem.lookup ?_);dsimp only
  split
  ·refine q05 ?_
   rw[q06 (by decide)];refine q04 (P.len_str ⋯ ?_);refine q04 (m:=asInt? _) (q05 ?_);dsimp only;show wpAny _ _ (newObj (.type "reversed") (.fields #[.str x t,rawInt ((x.length:Int)-1)]) >>= λv=>ret v) _ _ _;exact q04 (wpAny_newObj_type (q05 ⟨_,rfl,h⟩))
  ·rename_i hn
   exact q0Q (by decide +kernel) hn
theorem kH{x:Str}{t:Tok}{Q:Lx}(hz:x.length<=sizeLine)
  (h:Q (.ref s.heap.objs.size) {s with heap:=s.heap.push (wj x t ((x.length:Int)-1)),toks:=s.toks+1+1}):wpAny b⁻¹ A (call (.type "reversed") [.str x t]) Q E s:=
 callType_new F.rvs_called (by decide) (F.rvs_typeCall_1 _) (F.rvs_newCall_1 _) (λobj=>F.args_object_init_2 obj _) F.rvs_entry_new (pN x t hz) ⟨⟨_,KJ _ rfl,rfl⟩,h⟩
end
end PySem
namespace L2
open PySem PySem.Spec PyProof.Rows
def fc(env:Env):List (Str×NameKind)->List (Str×Addr)->List (Str×Addr)
 | [],acc=>acc
 | (n,k)::r,acc=>if k==.free then fc env r ((n,(env.cells.lookup n).getD 0)::acc) else fc env r acc
theorem mq{env:Env}:∀(ns:List (Str×NameKind)) (acc:List (Str×Addr)),(∀x∈ns,x.2=.free->∃c,env.cells.lookup x.1=some c) ->
  (forIn ns acc fun(x:Str×NameKind) (cs:List (Str×Addr))=>(if x.2==.free then do
    let c <- cellOf env x.1
    pure (ForInStep.yield ((x.1,c)::cs))
   else pure (ForInStep.yield cs):Sem (ForInStep (List (Str×Addr)))))=pure (fc env ns acc)
 | [],acc,_=>rfl
 | (n,k)::r,acc,h=>by
  have ih:=λa=>mq (env:=env) r a λx hx=>h x (KW _ hx);rw[List.forIn_cons]
  by_cases hk:k=.free
  ·subst hk
   obtain⟨c,hc⟩:=h (n,.free) q0B rfl;have hc':env.cells.lookup n=some c:=hc;have e1:cellOf env n=pure c:=by unfold cellOf;rw[hc']
   simp only[fc,hc',q0L];show((do let c <- cellOf env n;pure (ForInStep.yield ((n,c)::acc))) >>= _)=_;rw[e1,pure_bind,pure_bind];exact ih _
  ·have b:(k==NameKind.free)=false:=by simpa using hk
   simp only[fc,b,q0a,if_false];rw[pure_bind];exact ih _
theorem iV{env:Env}{scope:Scope}(h:∀x∈scope.names,x.2=.free->∃c,env.cells.lookup x.1=some c) :
  closureFor scope env=pure (fc env scope.names []):=by
 unfold closureFor;have e:=mq (env:=env) scope.names [] h;have a:(forIn scope.names ([]:List (Str×Addr)) λx b=>(match x with
   | (name,kind)=>if kind==.free then do
     let c <- cellOf env name
     pure (ForInStep.yield ((name,c)::b))
    else pure (ForInStep.yield b):Sem (ForInStep (List (Str×Addr)))))=pure (fc env scope.names []):=e
 simp only[]at a ⊢
 first
  | (rw[a];rfl)
  | (erw [a];rfl)
theorem im{env:Env}:∀{ns:List (Str×NameKind)} {acc:List (Str×Addr)} {x:Str} {c:Addr},(∀y∈ns,y.2=.free->∃c,env.cells.lookup y.1=some c) ->
  (∀y c,acc.lookup y=some c->env.cells.lookup y=some c)->(fc env ns acc).lookup x=some c->env.cells.lookup x=some c
 | [],_,_,_,_,ha,e=>ha _ _ e
 | (n,k)::r,acc,x,c,h,ha,e=>by
  have hr:∀y∈r,y.2=.free->∃c,env.cells.lookup y.1=some c:=λy hy=>h y (KW _ hy);unfold fc at e
  by_cases hk:k=.free
  ·subst hk
   rw[q07 (by simp)]at e;obtain⟨c',hc⟩:=h (n,.free) q0B rfl;have hc':env.cells.lookup n=some c':=hc;refine im hr (λy d z=>?_) e;rw[hc',q0L,List.lookup_cons]at z
   by_cases q:y=n
   ·subst q
    simp at z;subst z;exact hc'
   ·have q':(y==n)=false:=by simpa using q
    rw[q']at z;exact ha y d z
  ·rw[q06 (by simpa using hk)]at e
   exact im hr ha e
theorem mV{env:Env}:∀{ns:List (Str×NameKind)} {acc:List (Str×Addr)} {x:Str},((∃c,acc.lookup x=some c)\/(x,NameKind.free)∈ns)->∃c,(fc env ns acc).lookup x=some c
 | [],_,_,h=>by
  rcases h with h | h
  ·exact h
  ·exact nomatch h
 | (n,k)::r,acc,x,h=>by
  unfold fc
  by_cases hk:k=.free
  ·subst hk
   rw[q07 (by simp)];refine mV ?_
   by_cases q:x=n
   ·subst q
    left
    simp[List.lookup_cons]
   ·have q':(x==n)=false:=by simpa using q
    rcases h with⟨c,h⟩ | h
    ·exact .inl ⟨c,by rw[List.lookup_cons,q'];exact h⟩
    ·rcases KU.mp h with z | z
     ·cases z
      exact q0Q rfl q
     ·exact .inr z
  ·rw[q06 (by simpa using hk)]
   refine mV ?_;rcases h with h | h
   ·exact .inl h
   ·rcases KU.mp h with z | z
    ·cases z
     exact q0Q rfl hk
    ·exact .inr z
def vc(scope osc:Scope):Scope:=
 {scope with names:=scope.names.map fun(n,k)=>if(k==.free&&osc.kind==.function&&osc.names.lookup n==some .cell) then(n,.cell) else(n,k)}
def Co(scope osc:Scope):Bool:=
 (scope.kind==.function)&&(osc.kind==.function)&&scope.names.all fun(n,k)=>(k != .free || !scope.names.contains (n,NameKind.cell))&&(k != .local||scope.names.lookup n==some .local) &&
  (k != .free||osc.names.lookup n==some .cell||osc.names.lookup n==some .free)&&(k != .free||(vc scope osc).names.lookup n != some .local)
structure bP(scope osc:Scope):Prop where
 kind:scope.kind=.function
 sep:∀x∈scope.names,x.2=.free->(x.1,NameKind.cell)∉scope.names
 loc:∀x∈scope.names,x.2=.local->scope.names.lookup x.1=some .local
 free:∀x∈scope.names,x.2=.free->osc.names.lookup x.1=some .cell\/osc.names.lookup x.1=some .free
 nl:∀x∈scope.names,x.2=.free->(vc scope osc).names.lookup x.1≠some .local
theorem bP.of{scope osc:Scope}(h:Co scope osc=true):bP scope osc:=by
 unfold Co at h;rw[q0O,q0O,Ln]at h;obtain⟨⟨h1,h0⟩,h2⟩:=h;refine⟨by simpa using h1,λx a e=>?_,λx a e=>?_,λx a e=>?_,λx a e=>?_⟩
 all_goals
  obtain⟨n,k⟩:=x;have q:=h2 (n,k) a;simp only[q0O,Bool.or_eq_true,bne_iff_ne,beq_iff_eq]at q
 ·have z:=q.1.1.1.resolve_left (λz=>z e)
  simpa using z
 ·exact q.1.1.2.resolve_left (λz=>z e)
 ·rcases q.1.2 with(z | z) | z
  ·exact q0Q e z
  ·exact .inl z
  ·exact .inr z
 ·exact q.2.resolve_left (λz=>z e)
theorem fC{osc:Scope}:∀{ns:List (Str×NameKind)} {x:Str} {k':NameKind},
  (ns.map fun(n,k)=>if(k==NameKind.free&&osc.kind==.function&&osc.names.lookup n==some .cell) then(n,NameKind.cell) else(n,k)).lookup x=some k' ->
  (k'=.cell\/k'=.free)->(x,NameKind.free)∈ns\/(x,NameKind.cell)∈ns
 | [],_,_,h,_=>by simp at h
 | (n,k)::r,x,k',h,hk'=>by
  rw[K_]at h
  by_cases q:x=n
  ·subst q
   by_cases z:(k==NameKind.free&&osc.kind==.function&&osc.names.lookup x==some .cell)=true
   ·have:k=.free:=by
     simp only[q0O,beq_iff_eq]at z;exact z.1.1
    subst this;exact .inl q0B
   ·simp only[z,q0a,if_false]at h
    rw[List.lookup_cons]at h;simp at h;subst h;rcases hk' with e | e
    ·subst e;exact .inr q0B
    ·subst e;exact .inl q0B
  ·have a:(x==n)=false:=by simpa using q
   refine(fC (osc:=osc) (k':=k') (ns:=r) (x:=x) ?_ hk').imp (KW _) (KW _)
   by_cases z:(k==NameKind.free&&osc.kind==.function&&osc.names.lookup n==some .cell)=true
   ·simp only[z,if_true]at h
    rw[List.lookup_cons,a]at h;exact h
   ·simp only[z,q0a,if_false]at h
    rw[List.lookup_cons,a]at h;exact h
theorem iM:∀(ns:List (Str×NameKind)) (n:Nat) (acc:List (Str×Addr)),cellsFrom n ns acc=cellsFrom n ns []++acc
 | [],_,_=>rfl
 | (x,k)::r,n,acc=>by
  unfold cellsFrom
  split
  ·rw[iM r (n+1) ((x,n)::acc),iM r (n+1) [(x,n)],Ld];rfl
  ·exact iM r n acc
theorem sP:∀{ns:List (Str×NameKind)} {n:Nat} {x:Str} {c:Addr},(x,c)∈cellsFrom n ns []->(x,NameKind.cell)∈ns
 | [],_,_,_,h=>nomatch h
 | (y,k)::r,n,x,c,h=>by
  unfold cellsFrom at h
  split at h
  ·rename_i hk
   rw[iM]at h;rcases KR.mp h with h | h
   ·exact KW _ (sP h)
   ·cases KF.mp h
    have:k=.cell:=by simpa using hk
    subst this;exact q0B
  ·exact KW _ (sP h)
theorem sV:∀{ns:List (Str×NameKind)} {n:Nat} {x:Str} {acc:List (Str×Addr)},((x,NameKind.cell)∈ns\/∃c,acc.lookup x=some c)->∃c,(cellsFrom n ns acc).lookup x=some c
 | [],_,_,_,h=>h.elim (λz=>nomatch z) id
 | (y,k)::r,n,x,acc,h=>by
  unfold cellsFrom
  split
  ·refine sV ?_
   by_cases q:x=y
   ·subst q
    exact .inr ⟨n,by simp[List.lookup_cons]⟩
   ·have q':(x==y)=false:=by simpa using q
    rcases h with h | ⟨c,h⟩
    ·rcases KU.mp h with z | z
     ·cases z;exact q0Q rfl q
     ·exact .inl z
    ·exact .inr ⟨c,by rw[List.lookup_cons,q'];exact h⟩
  ·rename_i hk
   refine sV ?_;rcases h with h | h
   ·rcases KU.mp h with z | z
    ·cases z;exact q0Q rfl hk
    ·exact .inl z
   ·exact .inr h
def dX(env:Env)(scope:Scope)(C:Addr):List (Str×Addr):=cellsFrom (C+1) scope.names (fc env scope.names [])
theorem kq:∀{ns:List (Str×NameKind)} {n:Nat} {x:Str} {c:Addr},(x,c)∈cellsFrom n ns []->n<=c
 | [],_,_,_,h=>nomatch h
 | (y,k)::r,n,x,c,h=>by
  unfold cellsFrom at h
  split at h
  ·rw[iM]at h
   rcases KR.mp h with h | h
   ·exact K' (Nat.le_succ _) (kq h)
   ·cases KF.mp h
    exact K4 _
  ·exact kq h
theorem nr:∀{ns:List (Str×NameKind)} {n:Nat},(cellsFrom n ns []).Pairwise λx y=>x.2≠y.2
 | [],_=>List.Pairwise.nil
 | (y,k)::r,n=>by
  unfold cellsFrom
  split
  ·rw[iM]
   refine List.pairwise_append.mpr ⟨nr,by simp,λa ha b hb e=>?_⟩;cases KF.mp hb;have:=kq (x:=a.1) (c:=a.2) ha;rw[e]at this;exact q0Q this (Nat.not_succ_le_self _)
  ·exact nr
theorem iw{env:Env}{scope:Scope}{c:Addr}(h:(dX env scope C).lookup x=some c) :
  ((x,c)∈cellsFrom (C+1) scope.names []/\C<c/\(x,NameKind.cell)∈scope.names)\/((cellsFrom (C+1) scope.names []).lookup x=none/\(fc env scope.names []).lookup x=some c):=by
 unfold dX at h;rw[iM,List.lookup_append]at h;cases q:(cellsFrom (C+1) scope.names []).lookup x with
 |none=>rw[q]at h;exact .inr ⟨rfl,h⟩
 |some d=>
  rw[q]at h;cases h;have:=mem_of_lookup q;exact .inl ⟨this,kq this,sP this⟩
theorem A9{ns:List (Str×NameKind)}{x:Str}(h:(x,NameKind.cell)∉ns):(cellsFrom n ns []).lookup x=none:=by
 cases q:(cellsFrom n ns []).lookup x with
 |none=>rfl
 |some d=>exact q0Q (sP (mem_of_lookup q)) h
section
variable {M:Model}{A:LJ}{E:Lx}{s:LB}
theorem fk{scope:Scope}{globals:Addr}{closure:List (Str×Addr)}{qual:Str}{func:LL}{code:Value}{outer:Env}{builtins:Addr}{Q:Env->Shared->Prop}
  (hQ:Q (newEnv scope s.heap.objs.size globals (cellsFrom (s.heap.objs.size+1) scope.names closure) qual func code (some outer) builtins) {s with heap:=pushCells (s.heap.push {cls:=.type "dict",data:=.dict #[]}) scope.names}) :
  wpAny M A (newFunctionEnv scope globals closure [] qual func code (some outer) builtins) Q E s:=by
 simp only[newFunctionEnv,Option.isSome_some,if_true];simp only[newEnv]at hQ;refine q04 (wpAny_alloc ?_);refine q04 (wpAny_layCells _ (λname a cells=>by cases b:a==NameKind.cell<;>simp[b]) _ _ _ _ ?_);rw[show({s with heap:=s.heap.push {cls:=.type "dict",data:=.dict #[]} }:Shared).heap.objs.size=s.heap.objs.size+1 from Heap.size_push ..];rw[List.forIn_nil];exact q04 (q05 (q05 hQ))
end
def Cx.blk(X:Cx)(N':LI)(s₂:LB)(H₂:Hp)(scope:Scope)(fp:LD)(C:Addr):Cx where
 prog:=X.prog
 w:=X.w
 K:=X.K
 mg:=X.mg
 base:=X.base
 A:=X.A
 N:=N'
 s₀:=s₂
 H₀:=H₂
 env:=compEnvC scope (dX X.env scope C) C X.env
 outer:=X.stack
 stack:=X.stack
 ex:=fp
 fn:=λx=>scope.names.contains (x,NameKind.cell)
 calm:=X.calm
 pn:=[]
 xe:=λ_ _=>False
def rf(k:Nat)(js:LA)(σ:St):St:=List.replicate k none++js.map λj=>(σ[j]?).join
def nM(own:LI)(js:LA)(N:LI):List Str:=own++js.map λj=>N.getD j Str.empty
section
variable {X:Cx}
theorem Inv.capFree{pins:Lz}{σ:St}{scope:Scope}(I:Inv X pins σ H s)(hk:bP scope X.env.scope):∀x∈scope.names,x.2=.free->∃c,X.env.cells.lookup x.1=some c:=
 λx hx e=>I.ok.has x.1 (hk.free x hx e)
theorem Inv.capL{pins:Lz}{σ:St}{scope:Scope}{c:Addr}(I:Inv X pins σ H s)(hk:bP scope X.env.scope)(e:(fc X.env scope.names []).lookup x=some c):X.env.cells.lookup x=some c:=
 im (I.capFree hk) (λ_ _ z=>by simp at z) e
theorem Inv.blkL{pins:Lz}{σ:St}{scope:Scope}{c:Addr}(I:Inv X pins σ H s)(hk:bP scope X.env.scope)(e:(dX X.env scope C).lookup x=some c) :
  ((x,c)∈cellsFrom (C+1) scope.names []/\C<c/\(x,NameKind.cell)∈scope.names)\/X.env.cells.lookup x=some c:=
 (iw e).imp id λz=>I.capL hk z.2
theorem Fw{pins:Lz}{σ:St}{scope:Scope}{fp:LD}{C:Addr}(I:Inv X pins σ H s)(hk:bP scope X.env.scope)(hC:s.heap.objs.size<=C)
  (hf:∀b∈fp,mQ X pins H b) (ho:∀b∈fp,∃o,s.heap.get? b=some o):(X.blk N' s H scope fp C).Ok where
 mod:=I.ok.mod
 kind:=hk.kind
 glob:=I.ok.glob
 blt:=I.ok.blt
 above:=hC
 inj:=λx y c e1 e2=>by
  have low:∀z,X.env.cells.lookup z=some c->c<C:=λz e=>by
   obtain⟨v,q⟩:=I.cell z c e;exact KZ q.lt hC
  rcases I.blkL hk e1 with⟨a1,a2,_⟩ | a<;>rcases I.blkL hk e2 with⟨b1,b2,_⟩ | b
  ·exact name_of_addr nr a1 b1
  ·exact q0Q (low _ b) (Nat.not_lt.mpr (q0P a2))
  ·exact q0Q (low _ a) (Nat.not_lt.mpr (q0P b2))
  ·exact I.ok.inj x y c a b
 has:=λx h=>by
  refine sV ?_;have z:(x,NameKind.free)∈scope.names\/(x,NameKind.cell)∈scope.names:=by
   rcases h with h | h
   ·exact fC (osc:=X.env.scope) h (.inl rfl)
   ·exact fC (osc:=X.env.scope) h (.inr rfl)
  rcases z with z | z
  ·exact .inr (mV (.inr z))
  ·exact .inl z
 cab:=λx c z e=>by
  have k:(x,NameKind.cell)∈scope.names:=by
   have j:scope.names.contains (x,NameKind.cell)=true:=z
   simpa using j
  have i:(dX X.env scope C).lookup x=some c:=e;rcases iw i with⟨_,a,_⟩ | ⟨a,_⟩
  ·exact K' hC (q0P a)
  ·obtain⟨d,q⟩:=sV (n:=C+1) (acc:=[]) (.inl k)
   rw[a]at q;cases q
 hd:=I.ok.hd
 frames:=I.ok.frames
 stk:=.inl rfl
 exf:=λb g=>⟨λe=>by
  obtain⟨o,q⟩:=ho b g;have i:b=C:=e;rw[i]at q;exact q0Q (K7 q) (Nat.not_lt.mpr hC),λx c e=>by
  rcases I.blkL hk e with⟨_,a,_⟩ | a
  ·obtain⟨o,q⟩:=ho b g
   intro z;rw[z]at a;exact q0Q (KZ (K7 q) hC) (Nat.not_lt.mpr (q0P a))
  ·exact(hf b g).2.2.2.2.1 x c a⟩
 bs:=I.bs
 bsz:=K' I.ok.bsz I.sz
 noex:=λb o e g=>by
  rcases(hf b g).2.2.2.1 with z | z
  ·exact I.ok.noex b o e z
  ·exact q0Q (K7 (I.ok.bs b o e).1) (Nat.not_lt.mpr z)
 exfs:=λb g l=>by
  rcases KU.mp (I.stkSub b l) with z | z
  ·exact(hf b g).2.1 z
  ·exact(hf b g).2.2.1 z
 funs:=I.stack
 frf:=I.stkFree
theorem zi{pins:Lz}{σ:St}{s1:LB}{own:LI}{js:LA}{scope:Scope}{fp:LD}{C:Addr}(I:Inv X pins σ H s)(hk:bP scope X.env.scope)(hC:s.heap.objs.size<=C)
  (hf:∀b∈fp,mQ X pins H b) (ho:∀b∈fp,∃o,s.heap.get? b=some o) (hos:s1.os=s.os) (hg:s1.gens=s.gens) (hn:s1.heap.Ns C m) (keep:∀b o,s.heap.get? b=some o->s1.heap.get? b=some o)
  (hown:∀x c,(x,c)∈cellsFrom (C+1) scope.names []->s1.heap.IsCell c none) (hcap:(js.all λj=>scope.names.contains (X.N.getD j Str.empty,NameKind.free))=true) :
  Inv (X.blk (nM own js X.N) s H scope fp C) [] (rf own.length js σ) H s1:=by
 have cl:=fun{x:Str} {c:Addr} (e:(fc X.env scope.names []).lookup x=some c)=>im (I.capFree hk) (λ_ _ z=>by simp at z) e;refine⟨Fw I hk hC hf ho,hos,hg▸I.bare,Un.kept keep,⟨m,hn,λi x v e1 Z Y=>?_⟩,λx c e=>?_,I.hok.fresh hC,λx c e=>(I.blkL hk e).elim (λz=>I.hok.fresh (K' hC (q0P z.2.1))) λz=>I.freeC x c z,λp O=>(nomatch O),I.hok.kept keep,?_⟩
 ·have d:(own++js.map λj=>X.N.getD j Str.empty)[i]?=some x:=e1
  have a:(List.replicate own.length none++js.map λj=>(σ[j]?).join)[i]?=some (some v):=Z
  by_cases y:i<own.length
  ·rw[K2 (by rw[List.length_replicate];exact y),List.getElem?_replicate,q07 y]at a
   cases a
  ·have k:own.length<=i:=Nat.le_of_not_lt y
   rw[K1 (by rw[List.length_replicate];exact k),List.length_replicate,KG]at a;rw[K1 k,KG]at d;cases B:js[i-own.length]? with
   |none=>rw[B]at d;cases d
   |some j=>
    rw[B]at d a;have J:X.N.getD j Str.empty=x:=q0S d;have n:(σ[j]?).join=some v:=q0S a;have G:σ[j]?=some (some v):=by
     cases q:σ[j]? with
     |none=>rw[q]at n;cases n
     |some z=>rw[q]at n;simp at n;rw[n]
    have w:j<X.N.length:=by rw[<- I.len];exact(KA.mp G).1
    have T:X.N[j]?=some x:=by rw[<- J,q0A,Kz w];rfl
    have r:(x,NameKind.free)∈scope.names:=by
     have q:=Ln.mp hcap j (KH B);rw[J]at q
     simpa using q
    have D:=hk.free _ r rfl;obtain⟨mo,hno,R⟩:=I.loc;obtain⟨u,L,M⟩:=R j x v T G (D.elim (λz=>.inr (.inl z)) λz=>.inr (.inr z));refine⟨u,L,?_⟩;rcases M with⟨g,_⟩ | ⟨g,c,U,S⟩
    ·rcases D with z | z
     ·rw[show X.env.kindOf x=X.env.scope.names.lookup x from rfl,z]at g;cases g
     ·rw[show X.env.kindOf x=X.env.scope.names.lookup x from rfl,z]at g;cases g
    ·obtain⟨c',l⟩:=mV (env:=X.env) (ns:=scope.names) (acc:=[]) (x:=x) (.inr r)
     have:=cl l;rw[U]at this;cases this;refine .inr ⟨?_,c,?_,S.keeps keep⟩
     case refine_2=>
      show(dX X.env scope C).lookup x=some c;unfold dX;rw[iM,List.lookup_append,A9 (hk.sep _ r rfl)];exact l
     -- its kind within the block
     rcases Y with z | z | z
     ·exact q0Q z (hk.nl _ r rfl)
     ·exact .inl z
     ·exact .inr z
 ·rcases I.blkL hk e with z | z
  ·exact⟨none,hown x c z.1⟩
  ·obtain⟨v,z⟩:=I.cell x c z
   exact⟨v,z.keeps keep⟩
 ·show(List.replicate own.length none++js.map λj=>(σ[j]?).join).length=(own++js.map λj=>X.N.getD j Str.empty).length
  simp
def D_(env:Env)(ifs:LM):Sem Bool:=forIn ifs true λc r=>if r=true then do let ok <- isTrue c env (eval c env);pure (ForInStep.yield ok) else pure (ForInStep.yield r)
theorem rJ{prog:LH}{A:LJ}{R:Result->Shared->Prop}{s:LB}{elt target iter:Expr}{ifs:LM}{scope:Scope}{pos:Pos}{it acc:Value}{env:Env}(I:Nat->Shared->Prop)
  (turn:∀n s,I n s->wpAny b⁻¹ A (pyNext it) (λr s₁=>match r with
   |none=>R (.ok .next) s₁
   |some v=>wpAny b⁻¹ A (letOwnedTupleGo target it v) (λ_ s₁'=>wpAny b⁻¹ A (assign target env v) (λ_ s₂=>
     wpAny b⁻¹ A (D_ env ifs) (λok s₃=>
      if ok=true then wpAny b⁻¹ A (eval elt env) (λx s₄=>
       wpAny b⁻¹ A (call (.builtin "list.append") [acc,x]) (λ_ s₅=>∃m,m<n/\I m s₅) (λ_ _=>False) s₄) (λ_ _=>False) s₃
      else ∃m,m<n/\I m s₃) (λ_ _=>False) s₂) (λ_ _=>False) s₁') (λ_ _=>False) s₁) (λ_ _=>False) s)
  (n:Nat) (h:I n s) :
  codeAny b⁻¹ A (.compLoop (.ListComp elt [⟨target,iter,ifs,0⟩] scope pos) 0 it acc env) R s:=by
 refine codeAny_loop rfl I (λn s k=>?_) n h;show wpAny _ A ((compTurn (.ListComp elt [⟨target,iter,ifs,0⟩] scope pos) 0 it acc env).onRaise (λx=>do noteFrame x env;theTreesLotGoes x)) _ _ s;refine wpAny_noted ?_;rw[compTurn_list];have up:∀{α:Type} {t:Sem α} {Q Q':α->Shared->Prop} {E':Lx} {s:LB},wpAny b⁻¹ A t Q (λ_ _=>False) s->(∀a s,Q a s->Q' a s)->wpAny b⁻¹ A t Q' E' s:=
  λh j=>q0X h j λ_ _ f=>f.elim
 refine q04 (wpAny_standAt (q04 (up (turn n s k) λr s₁ d=>?_)));cases r with
 |none=>exact q05 d
 |some v=>
  refine q04 (up d λ_ s₁' b=>q04 (up b λ_ s₂ i=>q04 (up i λok s₃ c=>?_)));cases ok with
  |false=>exact q05 ⟨rfl,c⟩
  |true=>
   exact q04 (q04 (up c λx s₄ g=>q04 (up g λ_ s₅ e=>q05 (q05 ⟨rfl,e⟩))))
def FR(X:Cx)(ifs:LM)(t:TT):Prop:=
 ∀(pins:Lz) (s:LB) (σ:St) (H:Hp) (Q:Bool->Hp->Prop),Inv X pins σ H s->t σ H Q->wpAny (model X.prog X.w) X.A (D_ X.env ifs) (TP X pins σ Q) X.xe s
def xD:TT:=λ_ H Q=>Q true H
theorem b9:FR X [] xD:=λpins s σ H Q I h=>wpAny_tests_nil ⟨H,I,h⟩
theorem tS{t:TT}(h:PT X c t):FR X [c] t:=λpins s σ H Q I q=>wpAny_tests_one (h pins s σ H Q I q)
def fJ(J:It)(g:TG)(ti:TT)(te:TE)(σ:St)(H:Hp)(Q:List V->Hp->Prop):Prop:=
 ∃W:Nat->Nat->List V->St->Hp->Prop,(∃m,W 0 m [] σ H)/\∀i m acc σ' H',W i m acc σ' H' ->
  acc.length<sizeLine/\((J.stop i H'/\Q acc H') \/
   (J.go i H'/\∃N:List V->St->Hp->Prop,(∀acc' σ2 H2,N acc' σ2 H2->∃m',m'<m/\W (i+1) m' acc' σ2 H2) /\
    ∀x H2,J.yld i H' x H2->g x σ' H2 λσ2 H3=>ti σ2 H3 λb H4=>if b=true then te σ2 H4 λv H5=>N (acc++[v]) σ2 H5 else N acc σ2 H4))
def xS(k:Nat)(js:LA)(wi:TI)(g:TG)(ti:TT)(te:TE):TE:=λσ H Q=>wi σ H λJ H1=>fJ J g ti te (rf k js σ) H1 λacc H'=>∀l,H' l=none->Q (.ref l) (aE H' l (.lst acc))
abbrev gq(its:LC)(n:Nat):Obj:={cls:=.type "list",data:=.seq its.toArray n}
theorem rq{pins:Lz}{σ:St}{H:Hp}{s:LB}{elt tg iter:Expr}{ifs:LM}{scope:Scope}{pos:Pos}{own:LI}{js:LA}{ti:TT}{te:TE}{fp:LD}{it:Addr}{tn:Nat->Heap->Prop}{E:Lx}
  {RR:Value->Addr->Result->Shared->Prop} (hc:X.calm=true) (hk:bP scope X.env.scope) (hcap:(js.all λj=>scope.names.contains (X.N.getD j Str.empty,NameKind.free))=true)
  (hg:∀s H fp C,PG (X.blk (nM own js X.N) s H scope fp C) tg g) (hi:∀s H fp C,FR (X.blk (nM own js X.N) s H scope fp C) ifs ti) (he:∀s H fp C,PE (X.blk (nM own js X.N) s H scope fp C) elt te)
  (I:Inv X pins σ H s) (T:qd X.prog X.w X.K tg J fp it tn) (st:tn 0 s.heap) (hf:∀b∈fp,mQ X pins H b)
  (hW:fJ J g ti te (rf own.length js σ) H Q)
  (hRR:∀(D C:Addr) (s':LB) (H':Hp) (acc:List V) (m:LF),Q acc H'->H' D=none->Inv X pins σ (aE H' D (.lst acc)) s'->s'.heap.Ns C m->aE H' D (.lst acc) C=none->C≠X.env.locals->X.s₀.heap.objs.size<=C ->
   (∀x c,X.env.cells.lookup x=some c->c≠C)->(∀p∈X.pn++pins,p.1≠C)->RR (.ref D) C (.ok .next) s') :
  wpAny (model X.prog X.w) X.A (newList []) (λacc s₃=>wpAny (model X.prog X.w) X.A (newFunctionEnv scope X.env.globals (fc X.env scope.names []) [] X.env.qual none .none (some X.env)) (λcenv s₄=>
   codeAny (model X.prog X.w) X.A (.compStart (.ListComp elt [⟨tg,iter,ifs,0⟩] scope pos) 0 (.ref it) acc {cenv with scope:=relabel scope X.env}) (RR acc cenv.locals) s₄) E s₃) E s:=by
 obtain⟨W,⟨m0,w0⟩,turn⟩:=hW;refine wpAny_newObj_type (fk ?_);dsimp only;generalize b4:s.heap.push {cls:=.type "list",dict:=none,data:=.seq ([]:List Value).toArray}=H2;generalize c9:pushCells (H2.push {cls:=.type "dict",data:=.dict #[]}) scope.names=h₁;have b1:∀b o,(H2.push {cls:=.type "dict",data:=.dict #[]}).get? b=some o->h₁.get? b=some o:=λb o e=>c9▸pushCells_keeps _ _ b o e;have c6:h₁.Ns H2.objs.size λ_=>none:=by
  have q:(H2.push {cls:=.type "dict",data:=.dict #[]}).Ns H2.objs.size λ_=>none:=Heap.Ns.new ..;exact q.at' λo e=>b1 _ o e
 have b2:∀x c,(x,c)∈cellsFrom (H2.objs.size+1) scope.names []->h₁.IsCell c none:=λx c e=>by
  have ok:=cellsFrom_ok scope.names (H2.push {cls:=.type "dict",data:=.dict #[]}) (H2.objs.size+1) [] ⟨λ_ _ hm=>(nomatch hm),List.Pairwise.nil⟩ (by rw[Heap.size_push];exact K4 _);rw[Heap.size_push,c9]at ok;exact(ok.empty x c e).1
 have hC:H2.objs.size=s.heap.objs.size+1:=by rw[<- b4,Heap.size_push]
 have b6:s.heap.objs.size≠H2.objs.size:=by rw[hC];exact K0 (Lb _)
 have L:s.heap.objs.size<=H2.objs.size:=by rw[hC];exact Nat.le_succ _
 have c0:∀b,b<s.heap.objs.size->b≠H2.objs.size/\b≠s.heap.objs.size:=λb l=>⟨by rw[hC];exact K0 (Nat.lt_succ_of_lt l),K0 l⟩;have c4:∀b o,s.heap.get? b=some o->h₁.get? b=some o:=λb o e=>b1 b o (KC _ (b4▸KC _ e));have d1:h₁.get? s.heap.objs.size=some (gq [] 0):=b1 _ _ (KC _ (b4▸KJ _ rfl));have a0:∀b∈fp,∃o,s.heap.get? b=some o:=λb l=>let ⟨o,e,_⟩:=T.obj 0 _ st b l;⟨o,e⟩
 have c1:tn 0 h₁:=T.keep 0 _ _ st λb _ o e=>c4 b o e;generalize B:X.blk (nM own js X.N) s H scope fp H2.objs.size=Xb;have I₁:Inv Xb [] (rf own.length js σ) H {s with heap:=h₁}:=B▸zi I hk L hf a0 rfl rfl c6 c4 b2 hcap;have eP:Xb.prog=X.prog:=by rw[<- B];rfl
 have ew:Xb.w=X.w:=by rw[<- B];rfl
 have eK:Xb.K=X.K:=by rw[<- B];rfl
 have eA:Xb.A=X.A:=by rw[<- B];rfl
 have ec:Xb.calm=true:=by rw[<- B];exact hc
 have eE:Xb.env=compEnvC scope (dX X.env scope H2.objs.size) H2.objs.size X.env:=by rw[<- B];rfl
 have ex:Xb.xe=λ_ _=>False:=by rw[<- B];rfl
 have es:Xb.s₀=s:=by rw[<- B];rfl
 have eh:Xb.H₀=H:=by rw[<- B];rfl
 have ef:Xb.fs=vW X.stack:=by rw[<- B];rfl
 have e0:Xb.ex=fp:=by rw[<- B];rfl
 have ep:Xb.pn=[]:=by rw[<- B];rfl
 have eL:Xb.env.locals=H2.objs.size:=by rw[eE];rfl
 have e9:H s.heap.objs.size=none:=I.hok.fresh (K4 _)
 -- D is no iterator's,no frame's
 have d6:∀b∈fp,b≠s.heap.objs.size:=λb l e=>by
  obtain⟨o,q⟩:=a0 b l;rw[e]at q;exact q0Q (K7 q) (La _)
 have e8:s.heap.objs.size∉Xb.fs:=λz=>by
  rw[ef]at z;rcases KU.mp (I.stkSub _ z) with q | q
  ·exact q0Q I.lt (by rw[<- q];exact La _)
  ·exact I.nofs (K4 _) q
 have a5:∀x c,Xb.env.cells.lookup x=some c->c≠s.heap.objs.size:=λx c e q=>by
  rcases I.blkL hk (C:=H2.objs.size) (x:=x) (c:=c) (by rw[eE]at e;exact e) with⟨_,z,_⟩ | z
  ·rw[q]at z
   exact q0Q L (Nat.not_le.mpr z)
  ·obtain⟨v,o,ho,_⟩:=I.cell x c z
   rw[q]at ho;exact q0Q (K7 ho) (La _)
 have R:∀{pl:Lz} {H':Hp},(∀b∈fp,H' b=none)->(∀p∈pl,p.1=s.heap.objs.size)->∀b∈fp,mQ Xb pl H' b:=λhn S b l=>by
  refine⟨hn b l,?_,?_,.inl (by rw[e0];exact l),λx c e=>?_,λp c5=>?_⟩
  ·rw[eL];exact(c0 b (let ⟨o,q⟩:=a0 b l;K7 q)).1
  ·rw[ef];intro z
   rcases KU.mp (I.stkSub b z) with q | q
   ·exact(hf b l).2.1 q
   ·exact(hf b l).2.2.1 q
  ·rcases I.blkL hk (C:=H2.objs.size) (x:=x) (c:=c) (by rw[eE]at e;exact e) with⟨_,z,_⟩ | z
   ·intro q
    rw[q]at z;obtain⟨o,q2⟩:=a0 b l;exact q0Q (KZ (K7 q2) L) (Nat.not_lt.mpr (q0P z))
   ·exact(hf b l).2.2.2.2.1 x c z
  ·rw[ep,Lq]at c5
   rw[S p c5];exact(d6 b l).symm
 have a6:∀s₃:Shared,s₃={s with heap:=h₁} ->
   codeAny (model X.prog X.w) X.A (.compLoop (.ListComp elt [⟨tg,iter,ifs,0⟩] scope pos) 0 (.ref it) (.ref s.heap.objs.size) (compEnvC scope (dX X.env scope H2.objs.size) H2.objs.size X.env))
    (RR (.ref s.heap.objs.size) H2.objs.size) s₃:=by
  rintro s₃ rfl;refine rJ (λn s'=>∃(i:Nat) (acc:List V) (a:LC) (k:Nat) (σ':St) (H':Hp),Inv Xb [] σ' H' s'/\tn i s'.heap/\(∀b∈fp,H' b=none)/\H' s.heap.objs.size=none/\s'.heap.get? s.heap.objs.size=some (gq a k)/\bx acc a/\W i n acc σ' H')
   ?_ m0 ⟨0,[],[],0,_,H,I₁,c1,λb l=>(hf b l).1,e9,d1,.nil,w0⟩
  rintro n s' ⟨i,acc,a,k,σ',H',I',c3,d7,M,e3,Z,w'⟩;obtain⟨c7,tt⟩:=turn i n acc σ' H' w'
  -- the gathered list,pinned
  have Ip:Inv Xb [(s.heap.objs.size,gq a k)] σ' H' s':=I'.pins_of λp S=>by
   have e:p=(s.heap.objs.size,gq a k):=by simpa using S
   subst e;exact⟨e3,M,by rw[eL];exact b6,e8,λv z=>by cases z⟩
  have b0:∀p∈[(s.heap.objs.size,gq a k)],p.1=s.heap.objs.size:=λp S=>by
   have e:p=(s.heap.objs.size,gq a k):=by simpa using S
   rw[e]
  rcases tt with⟨c2,q⟩ | ⟨go,N,hN,step⟩
  ·have d:=T.done Xb eP ew eK ec i _ s' σ' H' (λ_ _=>False) Ip (R d7 b0) c3 c2
   rw[eA]at d;refine q0X d (λr s1 hr=>?_) λ_ _ z=>z;obtain⟨rfl,I1⟩:=hr;have e2:s1.heap.get? s.heap.objs.size=some (gq a k):=(I1.pin _ (q0C _ (KF.mpr rfl))).1;obtain⟨mC,b3,_⟩:=I1.loc;rw[eL]at b3;obtain⟨oC,_,_,hoC,_⟩:=id b3;have f0:H' H2.objs.size=none:=by have:=I1.free;rwa [eL]at this
   have ub:Un (vW X.stack) fp H H' s.heap s1.heap:=by have:=I1.base;rwa [ef,e0,eh,es]at this
   refine hRR _ _ s1 H' acc mC q M ?_ b3 ?_ ?_ ?_ ?_ ?_
   ·-- df outside
    refine I.call' (ch:=fp) (by have:=I1.os;rwa [es]at this) ⟨λb o e n1 h1 h2=>ub.keep b o e n1 h1 h2,λb o e n1 h1 h2=>ub.slot b o e n1 h1 h2,λb o e n1 h1=>?_,ub.there,λb xs e=>?_,λb o u e=>?_,λb ps e=>?_⟩ ?_ (by have:=I1.bare;exact this) λb l=>?_
    ·rw[av (λz=>by rw[z]at e;exact q0Q (K7 e) (La _))]
     exact ub.free b o e n1 h1
    ·rw[av (aK (ub.tups b xs e) M)]
     exact ub.tups b xs e
    ·rw[av (aK (ub.frzs b o u e) M)]
     exact ub.frzs b o u e
    ·obtain⟨more,z⟩:=ub.tbls b ps e
     exact⟨more,by rw[av (aK z M)];exact z⟩
    ·intro b u e
     have a7:=I1.hok;rw[eP,ew]at a7
     by_cases l:b=s.heap.objs.size
     ·subst l
      rw[af]at e;cases e;exact⟨q0P c7,a,k,Z,e2⟩
     ·rw[av l]at e
      refine(a7 b u e).stay (λc v _ z=>z) (λc z=>?_) λc xs z=>?_
      ·rw[av (aK z M)];exact z
      ·rw[av (aK z M)];exact z
    ·exact⟨(hf b l).2.2.2.1,(hf b l).2.1,(hf b l).2.2.2.2.1,(hf b l).2.2.2.2.2⟩
   ·rw[av b6.symm];exact f0
   ·intro z;have:=I.lt;rw[<- z]at this;exact q0Q this (Nat.not_lt.mpr L)
   ·exact K' I.sz L
   ·intro x c e z
    obtain⟨v,o,ho,_⟩:=I.cell x c e;rw[z]at ho;exact q0Q (K7 ho) (Nat.not_lt.mpr L)
   ·intro p S z
    have:=(I.pin p S).1;rw[z]at this;exact q0Q (K7 this) (Nat.not_lt.mpr L)
  ·have d:=T.item Xb eP ew eK ec i _ s' σ' H' (λ_ _=>False) Ip (R d7 b0) c3 go
   rw[eA]at d;refine q0X d (λr s1 hr=>?_) λ_ _ z=>z;obtain⟨u,rfl,d2⟩:=hr;refine q0X d2 (λ_ s2 e7=>?_) λ_ _ z=>z;obtain⟨x,e1,I2,r2,y2,a9,f1⟩:=e7;have f3:=I2.pinned (R f1 b0) (T.obj _ _ a9);have G:=B▸hg s H fp H2.objs.size;have d3:=G _ s2 σ' e1 x u _ f3 r2 (step x e1 y2);rw[eP,ew,eA,ex,eE]at d3;refine q0X d3 (λ_ s3 e6=>?_) λ_ _ z=>z;obtain⟨σ3,H3,I3,q3⟩:=e6;have Gi:=B▸hi s H fp H2.objs.size;have d4:=Gi _ s3 σ3 H3 _ I3 q3;rw[eP,ew,eA,ex,eE]at d4;refine q0X d4 (λb s4 e5=>?_) λ_ _ z=>z;obtain⟨H4,I4,q4⟩:=e5;have U:∀{O:LB} {Y:Hp} {σ5:St},Inv Xb ([(s.heap.objs.size,gq a k)]++oA fp s2.heap) σ5 Y O->O.heap.get? s.heap.objs.size=some (gq a k)/\Y s.heap.objs.size=none/\tn (i+1) O.heap/\∀b∈fp,Y b=none:=fun{O Y σ5} I5=>by
    have pD:=I5.pin (s.heap.objs.size,gq a k) (q0C _ (q0D _ (KF.mpr rfl)));refine⟨pD.1,pD.2.1,T.keep _ _ _ a9 λb l o e=>(I5.pin (b,o) (q0C _ (q0C _ (ig l e)))).1,λb l=>?_⟩;obtain⟨o,e,_⟩:=T.obj _ _ a9 b l;exact(I5.pin (b,o) (q0C _ (q0C _ (ig l e)))).2.1
   have bare:∀{O:LB} {Y:Hp} {σ5:St} {pl:Lz},Inv Xb pl σ5 Y O->Inv Xb [] σ5 Y O:=λI5=>I5.pins_of λp S=>nomatch S;cases b with
   |false=>
    obtain⟨m',hm,w5⟩:=hN _ _ _ q4;obtain⟨a1,a2,a3,a4⟩:=U I4;exact⟨m',hm,i+1,acc,a,k,σ3,H4,bare I4,a3,a4,a2,a1,Z,w5⟩
   |true=>
    have Ge:=B▸he s H fp H2.objs.size;have d5:=Ge _ s4 σ3 H4 _ I4 q4;rw[eP,ew,eA,ex,eE]at d5;refine q0X d5 (λy O e4=>?_) λ_ _ z=>z;obtain⟨v,Y,I5,r5,q5⟩:=e4;obtain⟨m',hm,w5⟩:=hN _ _ _ q5;obtain⟨a1,a2,a3,a4⟩:=U I5;have hl:=Z.length;refine call_meets F.slot_list_append ⟨_,a1,rfl⟩ F.entry_list_append (F.args_list_append_2 _ _) (PySem.list_append s.heap.objs.size a.toArray k y (by rw[KL];omega)) ⟨a1,?_⟩;have qu:=PySem.IsL.update a1 (λa8=>a8.push y);have qe:(a.toArray.push y)=(a++[y]).toArray:=by simp
    rw[qe]at qu;have I6:Inv Xb [] σ3 Y {O with heap:=O.heap.update s.heap.objs.size (Obj.mapSeq λa8=>a8.push y),toks:=O.toks}:=
     (bare I5).turned (λb o l e=>(KI O.heap _ (Ne.symm l)).trans e) a2 (by rw[eL];exact b6) (.inr (by rw[es];exact K4 _)) a5 (by rw[ep];intro p S;exact nomatch S)
    refine⟨m',hm,i+1,acc++[v],a++[y],_,σ3,Y,I6,T.keep _ _ _ a3 (λb l o e=>(KI O.heap _ (d6 b l).symm).trans e),a4,a2,qu,Z.append (.cons r5 .nil),w5⟩
 refine codeAny_compStart_list (a6 _ rfl) ?_;exact T.self _ 0 _ _ _ c1 (a6 _ rfl)
theorem cq{elt tg iter:Expr}{ifs:LM}{scope:Scope}{pos:Pos}(own:LI)(js:LA){wi:TI}{g:TG}{ti:TT}{te:TE}(hc:X.calm=true)(hk:bP scope X.env.scope)
  (hcap:(js.all λj=>scope.names.contains (X.N.getD j Str.empty,NameKind.free))=true) (hw:PI X tg iter wi)
  (hg:∀s H fp C,PG (X.blk (nM own js X.N) s H scope fp C) tg g) (hi:∀s H fp C,FR (X.blk (nM own js X.N) s H scope fp C) ifs ti) (he:∀s H fp C,PE (X.blk (nM own js X.N) s H scope fp C) elt te)
  (hs:autoParam (∀x,foldedSetIterable iter X.env x=pure x) zz4._auto_1):PE X (.ListComp elt [⟨tg,iter,ifs,0⟩] scope pos) (xS own.length js wi g ti te):=by
 intro c s σ H Q I h;rw[eval_ListComp];refine wpAny_comprehension_free (use:=none) rfl hs (iV (I.capFree hk)) hk.kind hk.loc (cz (hw c s σ H _ I h) λv s1 h1=>cz h1 λitv s2 h2=>?_);obtain⟨it,fp,tn,J,H2,rfl,O,T,d,f2,L⟩:=h2;refine rq (RR:=λa C=>compPost (model X.prog X.w) X.A X.xe none (EP X c σ Q) a C) (Q:=λa u=>∀l,u l=none->Q (.ref l) (aE u l (.lst a))) hc hk hcap hg hi he O T d f2 L ?_;intro D C z u a m q M R B r p i n k;refine⟨m,B,λh' y=>?_⟩;exact⟨.ref D,_,R.turned (t':=z.toks) (λb o G e=>(y.2 b G).trans e) r p (.inr i) n k,rfl,q D M⟩
theorem fD{i:Nat}{x:Str}{elt tg iter:Expr}{ifs:LM}{scope:Scope}{pos spos:Pos}{px:Pos}(own:LI)(js:LA){wi:TI}{g:TG}{ti:TT}{te:TE}(hN:X.N.Nodup)(hxi:X.N[i]?=some x)(hx:Loc X.env.scope x)
  (hsw:swapsWith (.ListComp elt [⟨tg,iter,ifs,0⟩] scope pos) (some (.Name x px)) spos.line X.env=pure true)
  (hc:X.calm=true) (hk:bP scope X.env.scope)
  (hcap:(js.all λj=>scope.names.contains (X.N.getD j Str.empty,NameKind.free))=true) (hw:PI X tg iter wi)
  (hg:∀s H fp C,PG (X.blk (nM own js X.N) s H scope fp C) tg g) (hi:∀s H fp C,FR (X.blk (nM own js X.N) s H scope fp C) ifs ti) (he:∀s H fp C,PE (X.blk (nM own js X.N) s H scope fp C) elt te)
  (hs:autoParam (∀x,foldedSetIterable iter X.env x=pure x) zz4._auto_1) (hf:autoParam (X.fn x=true\/X.env.scope.names.lookup x=some .local) zz2._auto_1) :
  PS X (.Assign [.Name x px] (.ListComp elt [⟨tg,iter,ifs,0⟩] scope pos) spos) (zA (xS own.length js wi g ti te) (jA i)):=by
 intro c s σ H Dn I h;rw[exec_Assign_Name_used _ _ _ _ hsw];refine q04 (wpAny_standAt (q04 ?_));show wpAny _ _ (do let _ <- comprehension (.ListComp elt [⟨tg,iter,ifs,0⟩] scope pos) scope X.env _ (newList []) false (eval iter X.env) (some (assign (.Name x px) X.env))) _ _ s;refine q04 (q0X (wpAny_comprehension_free (use:=some (assign (.Name x px) X.env)) (Q:=λ_ k=>SP X c Dn .next k) (E:=X.xe) rfl hs (iV (I.capFree hk)) hk.kind hk.loc ?_) (λ_ k q=>q05 (q05 q)) λ_ _ z=>z);refine(cz (hw c s σ H _ I h) λv s1 h1=>cz h1 λitv s2 h2=>?_);obtain⟨it,fp,tn,J,H2,rfl,I2,T,r,f2,hW⟩:=h2;refine rq (RR:=λd C=>compPost (model X.prog X.w) X.A X.xe (some (assign (.Name x px) X.env)) (λ_ k=>SP X c Dn .next k) d C) (Q:=λd S=>∀l,S l=none->jA i (.ref l) σ (aE S l (.lst d)) Dn.nx) hc hk hcap hg hi he I2 T r f2 hW ?_;intro D C k S d m q hD I' U O p G n L;show wpAny _ _ (assign (.Name x px) X.env (.ref D)) _ _ k;refine wpAny_assign_Name (qW I' hN hxi hx (v:=.ref D) rfl (λB R y=>?_) hf);obtain⟨a,y,Z⟩:=y;have M:C≠a:=by
  rcases Z with z | z
  ·rw[z];exact p
  ·exact(n x a z).symm
 refine⟨m,U.sameBut y M,λh' u=>?_⟩;exact⟨_,_,R.turned (t':=B.toks) (λb o Y e=>(u.2 b Y).trans e) O p (.inr G) n L,q D hD⟩
end
section
variable {K:Ly}{g:TG}{ti:TT}{te:TE}{σ:St}{H:Hp}{Q:List V->Hp->Prop}
theorem i9{J:It}{n:Nat}(Pv:Nat->List V->St->Hp->Prop)(h0:Pv 0 [] σ H)(hz:∀i acc σ H,Pv i acc σ H->acc.length<sizeLine)(hi:∀i acc σ H,Pv i acc σ H->i<=n)
  (stop:∀acc σ H,Pv n acc σ H->J.stop n H) (go:∀i acc σ H,i<n->Pv i acc σ H->J.go i H)
  (hs:∀i x acc σ H H2,i<n->Pv i acc σ H->J.yld i H x H2->g x σ H2 λσ2 H3=>ti σ2 H3 λb H4=>if b=true then te σ2 H4 λv H5=>Pv (i+1) (acc++[v]) σ2 H5 else Pv (i+1) acc σ2 H4)
  (he:∀acc σ H,Pv n acc σ H->Q acc H) :
  fJ J g ti te σ H Q:=by
 refine⟨λi m acc σ H=>Pv i acc σ H/\m=n+1-i,⟨n+1,h0,rfl⟩,?_⟩;rintro i m acc σ' a ⟨w,rfl⟩;refine⟨hz i acc σ' a w,?_⟩;have hle:=hi i acc σ' a w;rcases Nat.lt_or_ge i n with c | hge
 ·refine .inr ⟨go i acc σ' a c w,λacc' σ2 H2=>Pv (i+1) acc' σ2 H2,λacc' σ2 H2 w2=>⟨n+1-(i+1),?_,w2,rfl⟩,λx H2 y=>hs i x acc σ' a H2 c w y⟩
  have:=hi (i+1) acc' σ2 H2 w2;omega
 ·have e:i=n:=by omega
  subst e;exact .inl ⟨stop acc σ' a w,he acc σ' a w⟩
theorem eC{xs:List V}(Pv:Nat->List V->St->Hp->Prop)(h0:Pv 0 [] σ H)(hz:∀i acc σ H,Pv i acc σ H->acc.length<sizeLine)(hi:∀i acc σ H,Pv i acc σ H->i<=xs.length)
  (hl:∀i acc σ H,Pv i acc σ H->aN K H a xs)
  (hs:∀i x acc σ H,xs[i]?=some x->Pv i acc σ H->g x σ H λσ2 H3=>ti σ2 H3 λb H4=>if b=true then te σ2 H4 λv H5=>Pv (i+1) (acc++[v]) σ2 H5 else Pv (i+1) acc σ2 H4)
  (he:∀acc σ H,Pv xs.length acc σ H->Q acc H):fJ (BT K a) g ti te σ H Q:=by
 exact i9 (J:=BT K a) (g:=g) (ti:=ti) (te:=te) (Q:=Q) (n:=xs.length) Pv h0 hz hi (λacc σ H w=>⟨xs,hl _ _ _ _ w,K4 _⟩)
  (λi acc σ H hlt w=>⟨xs,xs[i],hl _ _ _ _ w,Kz hlt⟩) (λi x acc σ H H2 hlt w y=>by obtain⟨rfl,c⟩:=y;exact hs i x acc σ H2 (c xs (hl _ _ _ _ w)) w) he
theorem gY{lo:Int}{n:Nat}(Pv:Nat->List V->St->Hp->Prop)(h0:Pv 0 [] σ H)(hz:∀i acc σ H,Pv i acc σ H->acc.length<sizeLine)(hi:∀i acc σ H,Pv i acc σ H->i<=n)
  (hs:∀i acc σ H,i<n->Pv i acc σ H->g (.int (lo+i)) σ H λσ2 H3=>ti σ2 H3 λb H4=>if b=true then te σ2 H4 λv H5=>Pv (i+1) (acc++[v]) σ2 H5 else Pv (i+1) acc σ2 H4)
  (he:∀acc σ H,Pv n acc σ H->Q acc H):fJ (xV lo n) g ti te σ H Q:=by
 exact i9 (J:=xV lo n) (g:=g) (ti:=ti) (te:=te) (Q:=Q) (n:=n) Pv h0 hz hi (λacc σ H w=>K4 _) (λi acc σ H hlt w=>hlt) (λi x acc σ H H2 hlt w y=>by obtain⟨rfl,rfl⟩:=y;exact hs i acc σ H2 hlt w) he
end
structure dP(P:LH)(w:LK)(K:Ly)(mg:LF)(base:Heap)(CX:j6)(k:Nat)(x:Str)(ps:LI)(sp:Sp):Prop where
 ex:∃(f:Addr) (fd:LG),bC P w K mg base CX k f fd ps sp/\mg x=some (.ref f)/\PySem.W.keepIn K (.ref f)=true/\dQ K fd ps []
structure NB(mg:LF):Prop where
 len:mg "len"=none
 range:mg "range"=none
 list:mg "list"=none
 tuple:mg "tuple"=none
 isinstance:mg "isinstance"=none
 int:mg "int"=none
 bool:mg "bool"=none
 str:mg "str"=none
 reversed:mg "reversed"=none
 all:mg "all"=none
 enumerate:mg "enumerate"=none
 zip:mg "zip"=none
 sorted:mg "sorted"=none
 set:mg "set"=none
 dict:mg "dict"=none
 min:mg "min"=none
 max:mg "max"=none
 sum:mg "sum"=none
 ValueError:mg "ValueError"=none
section
variable {X:Cx}{CX:j6}{k:Nat}{x:Str}{ps:LI}{sp:Sp}{E:XK}{p pos:Pos}{e:Expr}{es:LM}{t:TA}
theorem aM(C:dP X.prog X.w X.K X.mg X.base CX k x ps sp)(hr:c8 k X.A)(hg:Gl X x)(hx:dF CX X E)(ha:PA X (e::es) t)(hdb:autoParam ((x==("__debug__":Str))=false) zz3._auto_1)
  (hst:autoParam (starEach (e::es) X.env=(false,eval e X.env)::starEach es X.env) zz0._auto_1) (hpl:autoParam ((backTo pos (starEach es X.env)).any (·.1)=false) zz0._auto_1):PE X (.Call (.Name x p) (e::es) [] pos) (l_ sp [] E t):=by
 obtain⟨f,fd,F,a,b,c⟩:=C.ex;exact DF F hr hg a b c .nil hx ha hdb hst hpl
theorem q00(C:dP X.prog X.w X.K X.mg X.base bJ k x ps sp)(hr:c8 j X.A)(ha:PA X (e::es) t)(hk:autoParam (k<=j) zz1._auto_1)(hg:autoParam (Gl X x) zz0._auto_1)(hdb:autoParam ((x==("__debug__":Str))=false) zz3._auto_1)
  (hst:autoParam (starEach (e::es) X.env=(false,eval e X.env)::starEach es X.env) zz0._auto_1) (hpl:autoParam ((backTo pos (starEach es X.env)).any (·.1)=false) zz0._auto_1):PE X (.Call (.Name x p) (e::es) [] pos) (l_ sp [] E0 t):=aM C (hr.mono hk) hg aO ha hdb hst hpl
end
section
variable {X:Cx}{tg:Expr}
def B7(_ j:Int):Prop:=0<j/\j<18446744073709551616
theorem bc:bE X (binaryOp .FloorDiv) (rI B7 λi j=>.int (i/j)):=GY λi j _ _ _ _ _ hc q=>by
 have h1:(0:Int)<j:=hc.1;have h2:j<18446744073709551616:=hc.2;refine floordiv_int ⋯ (by rw[Int.fdiv_eq_ediv_of_nonneg i ⋯];exact q) (.inl (PyProof.noPylong_of_log2 ?_));have h64:j.natAbs.log2<64:=(Nat.log2_lt ⋯).mpr ⋯;omega
theorem ic:∀{ys:LI} {us:LC},bx (ys.map V.str) us->StrsAre us ys
 | [],_,.nil=>.nil
 |y::ys,_,.cons r t=>by
  obtain⟨tk,rfl⟩:=r;exact .cons y tk (ic t)
def uH(K:Ly):V->List V->Hp->VK->Prop:=λx xs H Q=>∃z p ys,x=.str z/\xs=[.ref p]/\(aN K H p (ys.map V.str)\/dO K H p (ys.map V.str))/\(ys.map (·.length)).sum+ys.length*z.length<=16777216/\Q (.str (Txt.join z ys)) H
theorem DQ:Ho X "str.join" (uH X.K):=by
 intro pins s σ H x xs v us Q I rx rv h;obtain⟨z,p,ys,rfl,rfl,hs,d,q⟩:=h;obtain⟨t,rfl⟩:=rx;obtain⟨u,rfl,e⟩:=rv.one;cases e;rcases hs with hs | hs
 ·obtain⟨c,r,b,_⟩:=I.list hs
  exact join_list b.isList (by simpa using ic r) d λa k=>⟨.str _,H,I.tok k,⟨a,rfl⟩,q⟩
 ·obtain⟨c,r,b,_⟩:=I.tuple hs
  exact join_tuple b (by simpa using ic r) d λa k=>⟨.str _,H,I.tok k,⟨a,rfl⟩,q⟩
def FT(x:Str):It:=⟨λi _=>i<x.cps.size,λi H v H'=>H'=H/\∃c,x.cps[i]?=some c/\v=.str ⟨#[c]⟩,λi _=>x.cps.size<=i⟩
theorem Bm{K:Ly}(x:Str)(t:Tok)(it:Addr):qd P w K tg (FT x) [it] it (λi h=>h.IsStrIter it (strIterType x) x t i) where
 mem:=by simp
 obj:=λi h g b l=>by
  have e:b=it:=by simpa using l
  subst e;obtain⟨o,e,c,d⟩:=g;exact⟨o,e,λv z=>by rw[d]at z;cases z⟩
 keep:=λi h m g k=>by
  obtain⟨o,e,c,d⟩:=g;exact⟨o,k it (by simp) o e,c,d⟩
 item:=by
  intro X M G O L i j s σ H E I hf g hg;subst M G O;obtain⟨D,C,f2,B,y,r⟩:=hf it (by simp);have J:i<x.cps.size:=hg;have p:x.cps[i]?=some x.cps[i]:=Array.getElem?_eq_getElem J;have fin:∀m,m.IsStrIter it (strIterType x) x t (i+1)->Heap.SameBut it s.heap m->∃u,(some (Value.str ⟨#[x.cps[i]]⟩ s.toks))=some u /\
    wpAny (model X.prog X.w) X.A (letOwnedTupleGo tg (.ref it) u) (λ_ S=>∃v H',Inv X j σ H' S/\bH v u/\(FT x).yld i H v H'/\S.heap.IsStrIter it (strIterType x) x t (i+1)/\∀b∈[it],H' b=none) E {s with heap:=m,toks:=s.toks+1}:=λm q T=>by
   have U:Inv X j σ H {s with heap:=m,toks:=s.toks+1}:=I.turned (λb o l e=>(T.2 b l).trans e) D C B y r;obtain⟨o,e,c,d⟩:=id q;refine⟨_,rfl,qt (s:={s with heap:=m,toks:=s.toks+1}) e c d ?_ ⟨.str ⟨#[x.cps[i]]⟩,H,U,⟨_,rfl⟩,⟨rfl,_,p,rfl⟩,q,λb l=>(hf b l).1⟩⟩;unfold strIterType
   split<;>decide
  cases n:x.cps.all (· < 128) with
  |true=>
   have a:strIterType x="str_ascii_iterator":=by unfold strIterType;rw[n];rfl
   rw[a]at g fin ⊢;exact wpAny_pyNext_ascii_item g p fin
  |false=>
   have a:strIterType x="str_iterator":=by unfold strIterType;rw[n];rfl
   rw[a]at g fin ⊢;exact wpAny_pyNext_wide_item g p fin
 done:=by
  intro X M G O L i j s σ H E I hf g hg;subst M G O;obtain⟨D,C,f2,B,y,r⟩:=hf it (by simp);have J:x.cps.size<=i:=hg;have p:x.cps[i]?=none:=Array.getElem?_eq_none J;cases n:x.cps.all (· < 128) with
  |true=>
   have a:strIterType x="str_ascii_iterator":=by unfold strIterType;rw[n];rfl
   rw[a]at g;exact wpAny_pyNext_ascii_end (I.ok.hd L) g p λm R=>⟨rfl,I.turned (t':=s.toks) (λb o l e=>R b o l e) D C B y r⟩
  |false=>
   have a:strIterType x="str_iterator":=by unfold strIterType;rw[n];rfl
   rw[a]at g;exact wpAny_pyNext_wide_end (I.ok.hd L) g p λm R=>⟨rfl,I.turned (t':=s.toks) (λb o l e=>R b o l e) D C B y r⟩
 self:=λA i s Q E g h=>by
  cases n:x.cps.all (· < 128) with
  |true=>
   have a:strIterType x="str_ascii_iterator":=by unfold strIterType;rw[n];rfl
   rw[a]at g;exact wpAny_pyIter_striter_ascii g h
  |false=>
   have a:strIterType x="str_iterator":=by unfold strIterType;rw[n];rfl
   rw[a]at g;exact wpAny_pyIter_striter_wide g h
def Es(tl:TE):TI:=λσ H R=>tl σ H λv H1=>∃x,v=.str x/\R (FT x) H1
theorem EU{tl:TE}(hl:PE X l tl):PI X tg l (Es tl):=by
 intro a s σ H R I h;refine cz (hl a s σ H _ I h) λv c ⟨x,H1,d,g,i⟩=>?_;obtain⟨x,rfl,q⟩:=i;obtain⟨t,rfl⟩:=g;refine wpAny_pyIter_strU ?_;refine⟨c.heap.objs.size,[c.heap.objs.size],_,_,H1,rfl,d.kept (t':=c.toks) λb o e=>KC _ e,Bm x t _,⟨_,KJ _ rfl,rfl,rfl⟩,λb j=>?_,q⟩;have e:b=c.heap.objs.size:=by simpa using j
 subst e;exact d.fpOk (K4 _) (d.hok.fresh (K4 _))
def GR(K:Ly)(a:Addr)(n:Nat):It:=
 ⟨λi H=>∃xs x,aN K H a xs/\i<n/\xs[n-1-i]?=some x,λi H x H'=>H'=H/\∀xs,aN K H a xs->xs[n-1-i]?=some x,λi _=>i=n⟩
theorem Av{K:Ly}(a it:Addr)(n:Nat):qd P w K tg (GR K a n) [it] it (λi h=>h.IsRevIter it a ((n:Int)-1-(i:Int))) where
 mem:=by simp
 obj:=λi h g b m=>by
  have e:b=it:=by simpa using m
  subst e;obtain⟨o,e,c,d⟩:=g;exact⟨o,e,λv z=>by rw[d]at z;cases z⟩
 keep:=λi h r g k=>g.at λo e=>k it (by simp) o e
 item:=by
  intro X B y C T i j s σ H E I hf g hg;subst B y C;obtain⟨xs,x,R,S,O⟩:=hg;obtain⟨its,Y,p,hz⟩:=I.list R;obtain⟨u,hu,Z⟩:=Y.get O;obtain⟨M,L,f2,J,G,D⟩:=hf it (by simp);have e:(n:Int)-1-(i:Int)=((n-1-i:Nat):Int):=by omega
  have q:=g;rw[e]at q;refine wpAny_pyNext_rev_item q p.isList (x:=u) (by simpa using hu) λr l U=>?_;have e2:((n-1-i:Nat):Int)-1=(n:Int)-1-((i+1:Nat):Int):=by omega
  rw[e2]at l;have I1:Inv X j σ H {s with heap:=r }:=I.turned (t':=s.toks) (λb o m e=>(U.2 b m).trans e) M L J G D;obtain⟨o,e,c,d⟩:=id l;exact⟨u,rfl,qt (s:={s with heap:=r }) e c d (by decide) ⟨x,H,I1,Z,⟨rfl,λys hy=>by rw[I.list_inj hy R];exact O⟩,l,λb m=>(hf b m).1⟩⟩
 done:=by
  intro X B y C T i j s σ H E I hf g hg;subst B y C;obtain⟨M,L,f2,J,G,D⟩:=hf it (by simp);have S:i=n:=hg;subst S;have e:(i:Int)-1-(i:Int) = -1:=by omega
  rw[e]at g;exact wpAny_pyNext_rev_end (I.ok.hd T) g λr eb=>⟨rfl,I.turned (t':=s.toks) (λb o m e=>eb b o m e) M L J G D⟩
 self:=λ_ _ _ _ _ g h=>wpAny_pyIter_revIter g h
def Df(K:Ly)(ta:TA):TI:=λσ H R=>ta σ H λvs H1=>∃a xs,vs=[.ref a]/\aN K H1 a xs/\R (GR K a xs.length) H1
theorem AO{a:Expr}{ta:TA}{p pos:Pos}(hg:Gl X "reversed")(hm:X.mg "reversed"=none)(ha:PA X [a] ta)(hs:autoParam (starEach [a] X.env=[(false,eval a X.env)]) zz0._auto_1):PI X tg (.Call (.Name "reversed" p) [a] [] pos) (Df X.K ta):=by
 intro d s σ H R I h;refine Call_ (eV I hg hm boot_reversed (PyProof.Rows.callWith_type1 (cz (ha pos d s σ H _ I h) λus c ⟨vs,H1,j,v,w⟩=>?_) hs rfl));obtain⟨l,g,rfl,y,q⟩:=w;obtain⟨u,rfl,r⟩:=v.one;cases r;obtain⟨k,n,x,hz⟩:=j.list y;have i:=n.length;refine call_reversed_list x.isList ?_;have B:k.toArray.size=g.length:=by rw[KL,i]
 rw[B];have C:Inv X d σ H1 {c with heap:=c.heap.push (revObj l ((g.length:Int)-1))}:=j.kept (t':=c.toks) λb o e=>KC _ e;have m:(c.heap.push (revObj l ((g.length:Int)-1))).IsRevIter c.heap.objs.size l ((g.length:Int)-1-((0:Nat):Int)):=⟨_,KJ _ rfl,rfl,by simp[revObj]⟩;refine wpAny_pyIter_revIter m ?_;refine⟨c.heap.objs.size,[c.heap.objs.size],_,_,H1,rfl,C,Av l _ g.length,m,λb z=>?_,q⟩;have e:b=c.heap.objs.size:=by simpa using z
 subst e;exact j.fpOk (K4 _) (j.hok.fresh (K4 _))
def E7:V->Option Int->Option Int->Hp->VK->Prop:=λx lo hi H Q=>∃z,x=.str z/\z.length<=sizeLine/\Q (.str (Txt.slice z lo hi)) H
theorem lG:HG X E7:=by
 intro a s σ H x v vl vu lo hi sl Q I rx hs pl pu h;obtain⟨z,rfl,b,q⟩:=h;obtain⟨t,rfl⟩:=rx;have fin:∀c k,EP X a σ Q (.str (Txt.slice z lo hi) c) {s with toks:=k}:=λc k=>⟨.str _,H,I.tok k,⟨c,rfl⟩,q⟩;refine⟨"str",_,F.slot_str_getitem.lookup,typeIs_str _ _ _,?_⟩;cases pl with
 |none=>
  cases pu with
  |none=>exact wpAny_getItem_str_slice (l:=none) (u:=none) (st:=none) hs rfl (post_val_or_str ⟨K' (Txt.slice_le z _ _) b,fin⟩)
  |int j uj=>exact wpAny_getItem_str_slice (l:=none) (u:=some (j,uj)) (st:=none) hs rfl (post_val_or_str ⟨K' (Txt.slice_le z _ _) b,fin⟩)
 |int i ui=>
  cases pu with
  |none=>exact wpAny_getItem_str_slice (l:=some (i,ui)) (u:=none) (st:=none) hs rfl (post_val_or_str ⟨K' (Txt.slice_le z _ _) b,fin⟩)
  |int j uj=>exact wpAny_getItem_str_slice (l:=some (i,ui)) (u:=some (j,uj)) (st:=none) hs rfl (post_val_or_str ⟨K' (Txt.slice_le z _ _) b,fin⟩)
def GZ(sep:Str)(ta:TA):TE:=λσ H Q=>ta σ H λvs H1=>∃x,vs=[.str x]/\x.length<=1000/\sep.length<=1000/\Q (.str (Txt.join sep (x.cps.toList.reverse.map λc=>(⟨#[c]⟩:Str)))) H1
theorem nu{e:Expr}{ta:TA}{sep:Str}{j:Nat}{ap p1 p2 cpos:Pos}(hc:X.calm=true)(hg:Gl X "reversed")(hm:X.mg "reversed"=none)(ha:PA X [e] ta)
  (hfew:autoParam (((backTo cpos (starEach [.Call (.Name "reversed" p1) [e] [] p2] X.env)).all (λx=>!x.1)&&(backToKw cpos (keywordEach [] X.env)).all (λx=>x.1.isSome)
   && decide ([Expr.Call (.Name "reversed" p1) [e] [] p2].length+([]:List Keyword).length+(if([]:List Keyword).isEmpty then 0 else 1)<30))=true) zz0._auto_1)
  (hline:autoParam ((ap.endLine==cpos.line)=true) zz0._auto_1) (hs:autoParam (starEach [e] X.env=[(false,eval e X.env)]) zz0._auto_1) :
  PE X (.Call (.Attribute (.Constant (.str sep) j p0) "join" ap) [.Call (.Name "reversed" p1) [e] [] p2] [] cpos) (GZ sep ta):=by
 intro c s σ H Q I h;refine wpAny_Call_method_late rfl hfew hline rfl (cz (nV (X:=X) c s σ H (λv H1=>v=.str sep/\H1=H) I ⟨rfl,rfl⟩) λv l ⟨x,H1,n,y,D⟩=>?_);obtain⟨rfl,rfl⟩:=D;obtain⟨t0,rfl⟩:=y;refine⟨"str",_,F.plainAttrs_str,F.slot_str_join,F.type_str_join,typeIs_str _ _ _,(λa z=>nomatch z),?_⟩;refine Calls.callWith_builtin rfl (Calls.evalArgs_plain ?_);show wpAny _ _ (spliced ((false,eval (.Call (.Name "reversed" p1) [e] [] p2) X.env)::[])) _ _ l;refine Calls.spliced_cons ?_;refine Call_ (eV n hg hm boot_reversed (PyProof.Rows.callWith_type1 (cz (ha p2 c l σ H1 _ n h) λus d ⟨vs,H2,i,w,B⟩=>?_) hs rfl));obtain⟨x,rfl,C,g,q⟩:=B;obtain⟨u,rfl,r⟩:=w.one;obtain⟨t,rfl⟩:=r;have hsl:sizeLine=16777216:=q0W;refine kH ⋯ (Calls.spliced_nil ?_);have m:Inv X c σ H2 {d with heap:=d.heap.push (wj x t ((x.length:Int)-1)),toks:=d.toks+1+1}:=i.kept λb o e=>KC _ e;have J:=i.fpOk (b:=d.heap.objs.size) (H':=H2) (K4 _) (i.hok.fresh (K4 _));obtain⟨S,R,f2,O,M,L⟩:=J;refine Ch (m.ok.hd hc) (I:=d.heap.objs.size) (x:=x) (t:=t) ⟨_,KJ _ rfl,rfl,rfl⟩ C g λp t' k keep U Y T=>?_;obtain⟨h',g',d',k',o'⟩:=p;cases U;cases Y;cases T;exact⟨.str _,H2,m.turned (t':=k) (λb o G e=>keep b o G e) S R O M L,⟨t',rfl⟩,q⟩
def CS:V->Value
 | .ty n=>.type n
 | .ref a=>.ref a
 |_=>.none
def r_:V->Bool
 | .ty _=>true
 | .ref _=>true
 |_=>false
theorem DN(r:bH c u)(h:r_ c=true):u=CS c:=by
 cases c with
 |ty n=>exact r
 |ref a=>exact r
 |_=>cases h
def CA(K:Ly):List V->Hp->VK->Prop:=λxs H Q=>∃x c t b,xs=[x,c]/\r_ c=true/\jm K H x t/\PySem.W.kitOne K t (CS c)=some b/\Q (.bl b) H
theorem b_:d0 X (.builtin "isinstance") (CA X.K):=by
 intro pins s σ H xs us Q I r h;obtain⟨x,c,t,b,rfl,i,ty,e,q⟩:=h;obtain⟨u,v,rfl,g,d⟩:=r.two;rw[DN d i];exact Aa I g ty e λa=>⟨.bl b,H,I.tok a,rfl,q⟩
theorem iZ(K:Ly)(n:String):PySem.W.kitOne K (.type n) (.type n)=some true:=by
 unfold PySem.W.kitOne;rw[q07 (beq_self_eq_true _)]
inductive Dt where
 |non | bl (b:Bool) | int (i:Int) | str (x:Str) | lst (ds:List Dt) | tup (ds:List Dt)
mutual
def kK(K:Ly)(H:Hp):Dt->V->Prop
 | .non,v=>v=.non
 | .bl b,v=>v=.bl b
 | .int i,v=>v=.int i
 | .str x,v=>v=.str x
 | .lst ds,v=>∃a xs,v=.ref a/\aN K H a xs/\fQ K H ds xs
 | .tup ds,v=>∃a xs,v=.ref a/\dO K H a xs/\fQ K H ds xs
def fQ(K:Ly)(H:Hp):List Dt->List V->Prop
 | [],xs=>xs=[]
 |d::ds,xs=>∃x r,xs=x::r/\kK K H d x/\fQ K H ds r
end
mutual
def Dt.dep:Dt->Nat
 | .lst ds=>Dt.deps ds+1
 | .tup ds=>Dt.deps ds+1
 |_=>0
def Dt.deps:List Dt->Nat
 | []=>0
 |d::ds=>max (Dt.dep d) (Dt.deps ds)
end
theorem fQ.length{K:Ly}:∀{ds:List Dt} {xs:List V},fQ K H ds xs->xs.length=ds.length
 | [],_,h=>by unfold fQ at h;rw[h];rfl
 |d::ds,xs,h=>by
  unfold fQ at h;obtain⟨x,r,rfl,_,h2⟩:=h;simp[fQ.length h2]
theorem fQ.get{K:Ly}:∀{ds:List Dt} {xs:List V} {j:Nat} {x:V},fQ K H ds xs->xs[j]?=some x->∃d,ds[j]?=some d/\kK K H d x
 | [],_,_,_,h,e=>by unfold fQ at h;rw[h]at e;simp at e
 |d::ds,xs,j,x,h,e=>by
  unfold fQ at h;obtain⟨y,r,rfl,h1,h2⟩:=h;cases j with
  |zero=>simp at e;subst e;exact⟨d,rfl,h1⟩
  |succ j=>
   obtain⟨d',e1,e2⟩:=fQ.get (j:=j) h2 (by simpa using e);exact⟨d',by simpa using e1,e2⟩
theorem iK:∀{ds:List Dt} {j:Nat} {d:Dt},ds[j]?=some d->d.dep<=Dt.deps ds
 | [],_,_,e=>by simp at e
 |d'::ds,0,d,e=>by simp at e;subst e;unfold Dt.deps;omega
 |d'::ds,j+1,d,e=>by
  have:=iK (ds:=ds) (j:=j) (by simpa using e);unfold Dt.deps;omega
theorem gF(n:Nat):(List.range n).all (λ_=>true)=true:=by simp
theorem Cu{pins:Lz}{σ:St}(I:Inv X pins σ H s):∀(n:Nat) (d:Dt) (A:LJ) {v u:V} {vv uu:Value},d.dep<=n->A.units+n<cLine->kK X.K H d v->kK X.K H d u->bH v vv->bH u uu->SeqAt.EqAt A s vv uu true:=by
 intro n
 induction n with
 |zero=>
  intro d A v u vv uu S hA h1 h2 l k;cases d with
  |non=>unfold kK at h1 h2;subst h1 h2;have:=gz (A:=A) (s:=s) l k rfl rfl;exact this
  |bl b=>unfold kK at h1 h2;subst h1 h2;have:=gz (A:=A) (s:=s) l k rfl rfl;simpa[Cy]using this
  |int i=>unfold kK at h1 h2;subst h1 h2;have:=gz (A:=A) (s:=s) l k rfl rfl;simpa[Cy]using this
  |str x=>unfold kK at h1 h2;subst h1 h2;have:=gz (A:=A) (s:=s) l k rfl rfl;simpa[Cy]using this
  |lst ds=>unfold Dt.dep at S;omega
  |tup ds=>unfold Dt.dep at S;omega
 |succ n ih=>
  intro d A v u vv uu S hA h1 h2 l k;cases d with
  |non=>unfold kK at h1 h2;subst h1 h2;have:=gz (A:=A) (s:=s) l k rfl rfl;exact this
  |bl b=>unfold kK at h1 h2;subst h1 h2;have:=gz (A:=A) (s:=s) l k rfl rfl;simpa[Cy]using this
  |int i=>unfold kK at h1 h2;subst h1 h2;have:=gz (A:=A) (s:=s) l k rfl rfl;simpa[Cy]using this
  |str x=>unfold kK at h1 h2;subst h1 h2;have:=gz (A:=A) (s:=s) l k rfl rfl;simpa[Cy]using this
  |lst ds=>
   unfold kK at h1 h2;obtain⟨a,J,rfl,ha,o⟩:=h1;obtain⟨b,D,rfl,hb,m⟩:=h2;cases l;cases k
   by_cases p:a=b
   ·subst p;exact SeqAt.EqAt.same _
   ·unfold Dt.dep at S
    obtain⟨g,O,pa,_⟩:=I.list ha;obtain⟨c,M,Z,_⟩:=I.list hb;have l1:=O.length;have l2:=M.length;have l3:=o.length;have l4:=m.length
    have a0:g.toArray.size=c.toArray.size:=by simp;omega
    have q:=SeqAt.RcAt.lists (A:=A) (s:=s) (e:=λ_=>true) pa.isList Z.isList a0 ⋯ λj g1 g2=>by
     have C:j<g.length:=by simpa using g1
     have B:j<c.length:=by simpa using g2
     have L:J[j]?=some J[j]:=Kz ⋯;have G:D[j]?=some D[j]:=Kz ⋯;obtain⟨d,Y,z⟩:=o.get L;obtain⟨d',U,y⟩:=m.get G;rw[Y]at U;cases U
     obtain⟨w1,T,w⟩:=O.get L;obtain⟨w2,f2,r⟩:=M.get G;rw[Kz C]at T;rw[Kz B]at f2;cases T;cases f2
     have R:=iK Y;simp only[Lp];exact ih d A.in1 ⋯ (by show A.units+1+n<cLine;omega) z y w r
    rw[gF]at q;exact SeqAt.EqAt.of_refs p q
  |tup ds=>
   unfold kK at h1 h2;obtain⟨a,J,rfl,ha,o⟩:=h1;obtain⟨b,D,rfl,hb,m⟩:=h2;cases l;cases k
   by_cases p:a=b
   ·subst p;exact SeqAt.EqAt.same _
   ·unfold Dt.dep at S
    obtain⟨g,O,pa,_⟩:=I.tuple ha;obtain⟨c,M,Z,_⟩:=I.tuple hb;have l1:=O.length;have l2:=M.length;have l3:=o.length;have l4:=m.length
    have q:=SeqAt.RcAt.tuples (A:=A) (s:=s) (e:=λ_=>true) (show s.heap.IsTuple a g.toArray from pa) (show s.heap.IsTuple b c.toArray from Z) ⋯ λj g1 g2=>by
     have C:j<g.length:=by simpa using g1
     have B:j<c.length:=by simpa using g2
     have L:J[j]?=some J[j]:=Kz ⋯;have G:D[j]?=some D[j]:=Kz ⋯;obtain⟨d,Y,z⟩:=o.get L;obtain⟨d',U,y⟩:=m.get G;rw[Y]at U;cases U
     obtain⟨w1,T,w⟩:=O.get L;obtain⟨w2,f2,r⟩:=M.get G;rw[Kz C]at T;rw[Kz B]at f2;cases T;cases f2
     have R:=iK Y;simp only[Lp];exact ih d A.in1 ⋯ (by show A.units+1+n<cLine;omega) z y w r
    have e0:((List.range (min g.toArray.size c.toArray.size)).all (λ_=>true)&&g.toArray.size==c.toArray.size)=true:=by
     rw[gF,Bool.true_and];simp;omega
    rw[e0]at q;exact SeqAt.EqAt.of_refs p q
def DL(K:Ly)(neg:Bool):R2:=λx y H Q=>
 (∃ds,Dt.deps ds<=40/\((kK K H (.lst ds) x/\kK K H (.lst ds) y)\/(kK K H (.tup ds) x/\kK K H (.tup ds) y))/\Q (.bl (!neg)) H) \/
 (∃a b xs ys,x=.ref a/\y=.ref b/\aN K H a xs/\aN K H b ys/\xs.length≠ys.length/\Q (.bl neg) H)
theorem rY(hu:X.A.units+64<cLine):bE X (compareOp .NotEq) (DL X.K true):=by
 intro r s σ H x y v u Q I rx ry h;rcases h with⟨ds,hd,h,q⟩ | ⟨a,b,o,n,rfl,rfl,C,B,hne,q⟩
 ·have fin:EP X r σ Q (.bool false) s:=⟨.bl false,H,I,rfl,q⟩
  have p:∀{o n:List V} {g c:LC},fQ X.K H ds o->fQ X.K H ds n->bx o g->bx n c->∀j (h1:j<g.toArray.size) (h2:j<c.toArray.size),SeqAt.EqAt X.A.in1 s g.toArray[j] c.toArray[j] true:=fun{o n g c} k i m l j g1 g2=>by
   have O:=m.length;have M:=l.length;have Z:=k.length;have Y:=i.length
   have S:j<g.length:=by simpa using g1
   have R:j<c.length:=by simpa using g2
   have U:o[j]?=some o[j]:=Kz ⋯;have T:n[j]?=some n[j]:=Kz ⋯;obtain⟨d,e1,L⟩:=k.get U;obtain⟨d',e2,J⟩:=i.get T;rw[e1]at e2;cases e2
   obtain⟨w1,f1,G⟩:=m.get U;obtain⟨w2,f2,D⟩:=l.get T;rw[Kz S]at f1;rw[Kz R]at f2;cases f1;cases f2
   have hdep:=iK e1;simp only[Lp];exact Cu I 40 d X.A.in1 ⋯ (by show X.A.units+1+40<cLine;omega) L J G D
  rcases h with⟨h1,h2⟩ | ⟨h1,h2⟩
  ·unfold kK at h1 h2
   obtain⟨a,o,rfl,C,k⟩:=h1;obtain⟨b,n,rfl,B,i⟩:=h2;cases rx;cases ry
   obtain⟨g,m,z,_⟩:=I.list C;obtain⟨c,l,w,_⟩:=I.list B;have O:=m.length;have M:=l.length;have Z:=k.length;have Y:=i.length
   have q:=SeqAt.RcNeAt.lists (A:=X.A) (s:=s) (e:=λ_=>true) z.isList w.isList (by simp;omega) ⋯ (p k i m l);rw[gF]at q;exact q _ _ _ _ fin
  ·unfold kK at h1 h2
   obtain⟨a,o,rfl,C,k⟩:=h1;obtain⟨b,n,rfl,B,i⟩:=h2;cases rx;cases ry
   obtain⟨g,m,z,_⟩:=I.tuple C;obtain⟨c,l,w,_⟩:=I.tuple B;have O:=m.length;have M:=l.length;have Z:=k.length;have Y:=i.length
   have q:=SeqAt.RcNeAt.tuples (A:=X.A) (s:=s) (e:=λ_=>true) (show s.heap.IsTuple a g.toArray from z) (show s.heap.IsTuple b c.toArray from w) ⋯ (p k i m l);have e0:((List.range (min g.toArray.size c.toArray.size)).all (λ_=>true)&&g.toArray.size==c.toArray.size)=true:=by
    rw[gF,Bool.true_and];simp;omega
   rw[e0]at q;exact q _ _ _ _ fin
 ·cases rx;cases ry
  obtain⟨g,m,z,_⟩:=I.list C;obtain⟨c,l,w,_⟩:=I.list B;have O:=m.length;have M:=l.length
  exact SeqAt.RcNeAt.lists_lengths z.isList w.isList (by simp;omega) ⋯ _ _ _ _ ⟨.bl true,H,I,rfl,q⟩
end
end L2
namespace aL
abbrev HX:=List Nat
abbrev aL:=List HX
def rect(p:aL)(r c:Nat):Prop:=p.length=r/\∀x∈p,x.length=c
def Af(p:aL)(i j:Nat):Nat:=(p.getD i []).getD j 0
def mirror(p:aL):aL:=p.map List.reverse
def rE(p:aL)(i:Nat):HX:=p.reverse.map λx=>x.getD i 0
def bF(p:aL):aL:=(List.range (p.headD []).length).map (rE p)
def aT:Nat->aL->aL
 |0,p=>p
 |n+1,p=>aT n (bF p)
def turned(p:aL)(t:Nat):aL:=aT (t%4) (if 4<=t then mirror p else p)
theorem Cr{i:Nat}(h:rect p r c)(hi:i<r):(p.getD i []).length=c:=by
 have a:i<p.length:=by rw[h.1];exact hi
 rw[q0A,Kz a];exact h.2 _ (KM a)
theorem bf(h:rect p r c)(hr:0<r):(p.headD []).length=c:=by
 have:=Cr h hr;cases p with
 |nil=>have:=h.1;simp at this;omega
 |cons x p=>simpa using this
theorem cw(h:rect p r c):rect (mirror p) r c:=by
 refine⟨by simp[mirror,h.1],λx b=>?_⟩;obtain⟨y,a,rfl⟩:=Lm.mp b;rw[KY];exact h.2 y a
theorem bT(h:rect p r c)(hr:0<r):rect (bF p) c r:=by
 refine⟨by unfold bF;rw[KD,q0J,bf h hr],λx a=>?_⟩;obtain⟨i,_,rfl⟩:=Lm.mp a;simp[rE,h.1]
theorem jd{i j:Nat}(h:rect p r c)(hi:i<r)(hj:j<c):Af (mirror p) i j=Af p i (c-1-j):=by
 have a:i<p.length:=by rw[h.1];exact hi
 have b:(p[i]).length=c:=h.2 _ (KM a);unfold Af mirror;rw[q0A (l:=List.map _ _),KG,Kz a,q0A (l:=p),Kz a];simp only[Option.map_some,q0L];rw[q0A,List.getElem?_reverse (by rw[b];exact hj),b,q0A]
theorem cR{i j:Nat}(h:rect p r c)(hr:0<r)(hi:i<c)(hj:j<r):Af (bF p) i j=Af p (r-1-j) i:=by
 unfold Af bF;rw[bf h hr,q0A (l:=List.map _ _),KG,List.getElem?_range hi];simp only[Option.map_some,q0L];unfold rE;rw[q0A,KG,List.getElem?_reverse (by rw[h.1];exact hj),h.1];have a:r-1-j<p.length:=by rw[h.1];omega
 rw[Kz a,q0A (l:=p),Kz a]
 rfl
theorem j_(hp:rect p r c)(hq:rect q r c)(h:∀i j,i<r->j<c->Af p i j=Af q i j):p=q:=by
 refine List.ext_getElem (by rw[hp.1,hq.1]) λi h1 h2=>?_;have a:=hp.2 _ (KM h1);have d:=hq.2 _ (KM h2);refine List.ext_getElem (by rw[a,d]) λj b g=>?_;have e:=h i j (by rw[<- hp.1];exact h1) (by rw[<- a];exact b);unfold Af at e
 simpa[q0A,Kz,h1,h2,b,g]using e
theorem C5(p:aL):mirror (mirror p)=p:=by simp[mirror,KS,Function.comp_def]
theorem Cf(h:rect p r c)(hr:0<r)(hc:0<c):bF (bF (bF (bF p)))=p:=by
 have h1:=bT h hr;have h2:=bT h1 hc;have b:=bT h2 hr;have e:=bT b hc;refine j_ e h λi j a d=>?_;rw[cR b hc a d,cR h2 hr ⋯ a,cR h1 hc ⋯ ⋯,cR h hr ⋯ ⋯]
 congr 1<;>omega
theorem pB(h:rect p r c)(hr:0<r)(hc:0<c):mirror (bF p)=bF (bF (bF (mirror p))):=by
 have m:=cw h;have h1:=bT m hr;have h2:=bT h1 hc;have d:=bT h2 hr;have q:=bT h hr;refine j_ (cw q) d λi j a b=>?_;rw[jd q a b,cR h hr a ⋯,cR h2 hr a b,cR h1 hc ⋯ a,cR m hr ⋯ ⋯,jd h ⋯ ⋯]
 congr 1<;>omega
theorem cZ:∀(n:Nat) {p:aL} {r c:Nat},rect p r c->0<r->0<c->rect (aT n p) (if n%2=0 then r else c) (if n%2=0 then c else r)
 |0,_,_,_,h,_,_=>h
 |n+1,p,r,c,h,hr,hc=>by
  have:=cZ n (bT h hr) hc hr;show rect (aT n (bF p)) _ _
  by_cases e:n%2=0
  ·rw[q07 e,q07 e]at this
   rw[q06 ⋯,q06 ⋯];exact this
  ·rw[q06 e,q06 e]at this
   rw[q07 ⋯,q07 ⋯];exact this
theorem cO(h:rect p r c)(hr:0<r)(hc:0<c)(t:Nat):rect (turned p t) (if t%2=0 then r else c) (if t%2=0 then c else r):=by
 unfold turned;have e:t%4%2=t%2:=by omega
 rw[<- e]
 split
 ·exact cZ _ (cw h) hr hc
 ·exact cZ _ h hr hc
theorem cM(a b:Nat)(p:aL):aT a (aT b p)=aT (b+a) p:=by
 induction b generalizing p with
 |zero=>rw[Nat.zero_add];rfl
 |succ b ih=>show aT a (aT b (bF p))=_;rw[ih,Nat.add_right_comm];rfl
theorem fo(h:rect p r c)(hr:0<r)(hc:0<c)(n:Nat):aT n p=aT (n%4) p:=by
 induction n using Nat.strongRecOn generalizing p r c with
 |ind n ih=>
  by_cases a:n<4
  ·rw[Nat.mod_eq_of_lt a]
  ·obtain⟨m,rfl⟩:∃m,n=m+4:=⟨n-4,⋯⟩
   have e:aT (m+4) p=aT m (bF (bF (bF (bF p)))):=rfl;rw[e,Cf h hr hc,ih m ⋯ h hr hc]
   congr 1
   omega
theorem iq(h:rect p r c)(hr:0<r)(hc:0<c):∀n,mirror (aT n p)=aT (3*n) (mirror p):=by
 intro n
 induction n generalizing p r c with
 |zero=>rfl
 |succ n ih=>
  show mirror (aT n (bF p))=_;rw[ih (bT h hr) hc hr,pB h hr hc];have e:bF (bF (bF (mirror p)))=aT 3 (mirror p):=rfl;rw[e,cM]
  congr 1
  omega
def after(t u:Nat):Nat:=if u<4 then t/4*4+(t+u)%4 else(1-t/4)*4+(u+8-t)%4
def df(t:Nat):Nat:=if t<4 then(4-t)%4 else t
theorem b7(h:rect p r c)(hr:0<r)(hc:0<c){t u:Nat}(ht:t<8)(hu:u<8):turned (turned p t) u=turned p (after t u):=by
 have m:=cw h;unfold turned after
 by_cases h1:4<=t<;>by_cases h2:4<=u
 ·rw[q07 h1,q07 h2,q06 ⋯,q06 ⋯]
  rw[iq m hr hc,C5,cM,fo h hr hc]
  congr 1;omega
 ·rw[q07 h1,q06 h2,q07 ⋯,q07 ⋯]
  rw[cM,fo m hr hc]
  congr 1;omega
 ·rw[q06 h1,q07 h2,q06 ⋯,q07 ⋯]
  rw[iq h hr hc,cM,fo m hr hc]
  congr 1;omega
 ·rw[q06 h1,q06 h2,q07 ⋯,q06 ⋯]
  rw[cM,fo h hr hc]
  congr 1;omega
theorem lW(p:aL):turned p 0=p:=rfl
theorem gG{t u:Nat}(ht:t<8)(hu:u<8):after t u<8:=by unfold after;split<;>omega
theorem jb{t:Nat}(ht:t<8):df t<8:=by unfold df;split<;>omega
theorem xi{t:Nat}(ht:t<8):after t (df t)=0:=by
 unfold after df
 by_cases h:t<4
 ·rw[q07 h,q07 ⋯];omega
 ·rw[q06 h,q06 ⋯];omega
theorem wD{t:Nat}(ht:t<8):after (df t) t=0:=by
 unfold after df
 by_cases h:t<4
 ·rw[q07 h,q07 ⋯];omega
 ·rw[q06 h,q06 ⋯];omega
theorem lV(h:rect p r c)(hr:0<r)(hc:0<c){t:Nat}(ht:t<8):turned (turned p t) (df t)=p:=by
 rw[b7 h hr hc ht (jb ht),xi ht];rfl
end aL
namespace QL
open PySem L2 aL
def tx(r:LA):Str:=⟨r.toArray⟩
def au(p:aL):List V:=p.map λr=>V.str (tx r)
theorem aC(r:LA):(tx r).length=r.length:=by show r.toArray.size=r.length;simp
theorem cX(r:LA):(tx r).cps.toList=r:=by show r.toArray.toList=r;simp
theorem am(p:aL):(au p).length=p.length:=by unfold au;simp
theorem d8(p:aL):au p=(p.map tx).map V.str:=by unfold au;rw[KS];rfl
theorem br{p:aL}{i:Nat}(h:i<p.length):(au p)[i]?=some (V.str (tx p[i])):=by unfold au;rw[KG,Kz h];rfl
theorem cF(p:aL)(r:LA):au (p++[r])=au p++[V.str (tx r)]:=by unfold au;simp
theorem join_nil:∀(ys:List (List Nat)),Txt.join (Str.ofString "") (ys.map tx)=tx ys.flatten
 | []=>rfl
 |y::ys=>by
  have key:∀(zs:List (List Nat)) (a:LA),(zs.map tx).foldl (λacc (p:Str)=>acc++(Str.ofString "").cps++p.cps) a.toArray=(a++zs.flatten).toArray:=by
   intro zs
   induction zs with
   |nil=>intro a;simp
   |cons z zs ih=>
    intro a;rw[K_,List.foldl_cons];have e:a.toArray++(Str.ofString "").cps++(tx z).cps=(a++z).toArray:=by
     have b:(Str.ofString "").cps=#[]:=rfl;rw[b];show a.toArray ++ #[]++z.toArray=_;simp
    rw[e,ih];simp
  show(⟨(ys.map tx).foldl (λacc (p:Str)=>acc++(Str.ofString "").cps++p.cps) (tx y).cps⟩:Str)=_;show(⟨(ys.map tx).foldl (λacc (p:Str)=>acc++(Str.ofString "").cps++p.cps) y.toArray⟩:Str)=_;rw[key]
  rfl
theorem jc(r:LA):Txt.join (Str.ofString "") (r.map λc=>(⟨#[c]⟩:Str))=tx r:=by
 have e:(r.map λc=>(⟨#[c]⟩:Str))=(r.map λc=>[c]).map tx:=by rw[KS];rfl
 rw[e,join_nil]
 congr 1
 clear e
 induction r with
 |nil=>rfl
 |cons c r ih=>simp[ih]
def dl(p:aL):Prop:=p.length<=64/\∀r∈p,r.length<=64
theorem dl.of(h:rect p r c)(hr:r<=64)(hc:c<=64):dl p:=⟨by rw[h.1];exact hr,λx hx=>by rw[h.2 x hx];exact hc⟩
theorem aR{n:Nat}(h:n<=1000000):n<sizeLine:=by have:=q0W;omega
theorem az{n:Nat}(h:n<=1000000):n<=sizeLine:=by have:=q0W;omega
theorem ao{H:Hp}(h:H l=none):aD H (aE H l o):=λb u e=>by rw[av (aK e h)];exact e
theorem bz{H0:Hp}(s:aD H0 H)(h:H0 l=none):aD H0 (aE H l o):=λb u e=>by rw[av (aK e h)];exact s b u e
theorem dA{i:Nat}(h:rect p r c)(hi:i<r):∃hl:i<p.length,(p[i]).length=c:=⟨by rw[h.1];exact hi,h.2 _ (KM _)⟩
def gL(H:Hp)(p:aL)(Q:VK):Prop:=∀(l:Addr) (H':Hp),H l=none->H' l=some (.lst (au p))->aD H H'->Q (.ref l) H'
theorem rX(K:Ly):PySem.W.kitOne K (.type "int") (.type "bool")=some false:=by kernel_rfl
end QL
namespace L2
open PySem PySem.Spec PyProof.Rows
section
variable {X:Cx}
theorem aU:d0 X (.builtin "len") (λxs H Q=>∃p ys,xs=[.ref p]/\aN X.K H p ys/\Q (.int ys.length) H):=λpins s σ H xs us Q I r ⟨p,ys,e,h,q⟩=>kD pins s σ H xs us Q I r ⟨p,ys,e,.inl h,q⟩
theorem yO:d0 X (.builtin "len") (λxs H Q=>∃p ys,xs=[.ref p]/\dO X.K H p ys/\Q (.int ys.length) H):=λpins s σ H xs us Q I r ⟨p,ys,e,h,q⟩=>kD pins s σ H xs us Q I r ⟨p,ys,e,.inr h,q⟩
theorem uO{K:Ly}{g:TG}{ti:TT}{te:TE}{σ:St}{H:Hp}{Q:List V->Hp->Prop}{xs:List V}(Pv:Nat->List V->St->Hp->Prop)(h0:Pv 0 [] σ H)(hz:∀i acc σ H,Pv i acc σ H->acc.length<sizeLine)(hi:∀i acc σ H,Pv i acc σ H->i<=xs.length)
  (hl:∀i acc σ H,Pv i acc σ H->aN K H a xs)
  (hs:∀i x acc σ H,xs.reverse[i]?=some x->Pv i acc σ H->g x σ H λσ2 H3=>ti σ2 H3 λb H4=>if b=true then te σ2 H4 λv H5=>Pv (i+1) (acc++[v]) σ2 H5 else Pv (i+1) acc σ2 H4)
  (he:∀acc σ H,Pv xs.length acc σ H->Q acc H):fJ (GR K a xs.length) g ti te σ H Q:=by
 have c:∀{i:Nat} {x:V},i<xs.length->xs[xs.length-1-i]?=some x->xs.reverse[i]?=some x:=fun{i x} hi e=>by rw[List.getElem?_reverse hi];exact e
 exact i9 (J:=GR K a xs.length) (g:=g) (ti:=ti) (te:=te) (Q:=Q) (n:=xs.length) Pv h0 hz hi (λacc σ H w=>rfl)
  (λi acc σ H hlt w=>⟨xs,xs[xs.length-1-i]'⋯,hl _ _ _ _ w,hlt,Kz ⋯⟩) (λi x acc σ H H2 hlt w y=>by obtain⟨rfl,d⟩:=y;exact hs i x acc σ H2 (c hlt (d xs (hl _ _ _ _ w))) w) he
theorem Db(i j:Int):(yR (.int i) (.int j)=true)=True:=eq_true rfl
theorem fb{ta:TE}(ha:PE X a ta)(he:∀whole,isTrue a X.env whole=(do let v <- whole;standAt a.pos;holding [v] (truthy v))):PT X a (vD ta):=by
 intro b s σ H Q I h;rw[he];refine q04 (cz (ha b s σ H _ I h) λv s1 ⟨x,H1,d,c,k,e,q⟩=>?_);subst e;cases c;exact q04 (wpAny_standAt (q0Y (wpAny_truthy_bool ⟨H1,d,q⟩)))
def rK(J:It)(g:TG)(tb:TS)(D:fF)(σ:St)(H:Hp):Prop:=∃W:Nat->Nat->St->Hp->Prop,(∃m,W 0 m σ H)/\∀i m σ H,W i m σ H ->
 (J.stop i H/\D.nx σ H)\/(J.go i H/\∃N:St->Hp->Prop,(∀σ' H',N σ' H'->∃m',m'<m/\W (i+1) m' σ' H')/\∀x H',J.yld i H x H'->g x σ H' λσ2 H2=>tb {D with nx:=N,ct:=N,bk:=D.nx} σ2 H2)
def AZ(wi:TI)(g:TG)(tb:TS):TS:=λD σ H=>wi σ H λJ H1=>rK J g tb D σ H1
theorem aS{tg iter:Expr}{body:List Stmt}{wi:TI}{pos:Pos}(hp:PassesOwn (model X.prog X.w) X.A X.env X.xe)(hc:X.calm=true)(hi:PI X tg iter wi)(hg:PG X tg g)(hb:xu X body tb)
  (hs:autoParam (∀x,foldedSetIterable iter X.env x=pure x) zz4._auto_1):PS X (.For tg iter body [] pos) (AZ wi g tb):=EQ hp hc hi hg hb hs
section
variable {K:Ly}{g:TG}{tb:TS}{D:fF}{σ:St}{H:Hp}
theorem bW{xs:List V}(Pv:Nat->St->Hp->Prop)(h0:Pv 0 σ H)(hl:∀i σ H,i<=xs.length->Pv i σ H->aN K H a xs)
  (hs:∀i x σ H,xs[i]?=some x->Pv i σ H->g x σ H λσ2 H2=>tb {D with nx:=Pv (i+1),ct:=Pv (i+1),bk:=D.nx} σ2 H2) (hd:∀σ H,Pv xs.length σ H->D.nx σ H):rK (BT K a) g tb D σ H:=B_ Pv h0 hl hs hd
theorem bv{lo:Int}{n:Nat}(Pv:Nat->St->Hp->Prop)(h0:Pv 0 σ H)
  (hs:∀i σ H,i<n->Pv i σ H->g (.int (lo+i)) σ H λσ2 H2=>tb {D with nx:=Pv (i+1),ct:=Pv (i+1),bk:=D.nx} σ2 H2) (hd:∀σ H,Pv n σ H->D.nx σ H):rK (xV lo n) g tb D σ H:=zO Pv h0 hs hd
end
end
theorem aX:bootBuiltins "len"=some (.builtin "len"):=by decide +kernel
theorem eF:bootBuiltins "list"=some (.type "list"):=by decide +kernel
theorem AY:bootBuiltins "tuple"=some (.type "tuple"):=by decide +kernel
theorem BC:bootBuiltins "int"=some (.type "int"):=by decide +kernel
theorem DD:bootBuiltins "bool"=some (.type "bool"):=by decide +kernel
theorem Aj:bootBuiltins "str"=some (.type "str"):=by decide +kernel
theorem cn:bootBuiltins "isinstance"=some (.builtin "isinstance"):=by decide +kernel
theorem Cg:bootBuiltins "all"=some (.builtin "all"):=by decide +kernel
theorem zQ:bootBuiltins "sorted"=some (.builtin "sorted"):=by decide +kernel
theorem C6:bootBuiltins "dict"=some (.type "dict"):=by decide +kernel
end L2
namespace L2
open PySem PySem.Spec PyProof.Rows
section
variable {X:Cx}{a b c d:Expr}{ta tb tc td:TE}{pos:Pos}
def Fq(K:Ly):List V->Hp->VK->Prop:=λxs H Q=>∃(p:Addr) (bs:List Bool),xs=[.ref p]/\aN K H p (bs.map V.bl)/\Q (.bl (bs.all id)) H
theorem yn:∀{bs:List Bool} {us:LC} {i:Nat} {u:Value},bx (bs.map V.bl) us->us[i]?=some u->∃k,bs[i]?=some k/\u=.bool k
 | [],_,_,_,.nil,e=>by simp at e
 |k::bs,_,0,u,.cons r _,e=>by simp at e;subst e;exact⟨k,rfl,r⟩
 |k::bs,_,i+1,u,.cons _ t,e=>by
  obtain⟨k',h1,h2⟩:=yn (i:=i) t (by simpa using e);exact⟨k',by simpa using h1,h2⟩
theorem yP(bs:List Bool):((List.range bs.length).all λi=>(bs[i]?).getD true)=bs.all id:=by
 rw[Bool.eq_iff_iff,Ln,Ln]
 constructor
 ·intro h x c
  obtain⟨i,b,e⟩:=List.getElem_of_mem c;have q:=h i (List.mem_range.mpr b);rw[Kz b,q0L,e]at q;exact q
 ·intro h i b
  have a:=List.mem_range.mp b;rw[Kz a,q0L];exact h _ (KM a)
theorem uK(hc:X.calm=true):d0 X (.builtin "all") (Fq X.K):=by
 intro pins s σ H xs us Q I r h;obtain⟨p,bs,rfl,x,q⟩:=h;obtain⟨u,rfl,w⟩:=r.one;cases w;obtain⟨a,m,d,_⟩:=I.list x;have g:p<s.heap.objs.size:=by obtain⟨_,e,_⟩:=d.isList;exact K7 e
 have c:a.length=bs.length:=by rw[<- m.length,KD]
 refine call_all_walk (wpAny_pyIter_list d.isList ?_);refine⟨s.heap.objs.size,[s.heap.objs.size,p],[s.heap.objs.size],a.toArray.size,_,_,λi=>(bs[i]?).getD true,rfl,Walks.list (A:=X.A.in1) (I.ok.hd hc) _ p (K0 g) a.toArray,
  ⟨⟨_,KJ _ rfl,rfl,rfl⟩,d.isList.push _⟩,λi v s' Q' E' B j=>?_,λh' n z=>?_⟩
 ·obtain⟨k,e,rfl⟩:=yn (i:=i) m (by simpa using B)
  dsimp only at j;rw[e,q0L]at j;exact wpAny_truthy_bool j
 ·have e:((List.range a.toArray.size).all λi=>(bs[i]?).getD true)=bs.all id:=by rw[KL,c];exact yP bs
  rw[e];exact⟨.bl _,H,I.kept (t':=n) λb o l=>z b o (λy=>by rw[KF.mp y]at l;exact La _ (K7 l)) (KC _ l),rfl,q⟩
end
end L2
namespace QL
open PySem L2 aL PySem.Builtin PySem.Builtin.Str
theorem vO(row:LA)(i k:Nat)(h:i+k<=row.length):((List.range k).map λm=>i+m).filterMap (λj=>row[j]?)=(row.drop i).take k:=by
 rw[List.filterMap_map]
 induction k with
 |zero=>simp
 |succ k ih=>
  rw[q0M,List.filterMap_append,ih ⋯,q0E,List.getElem?_drop];have e:i+k<row.length:=by omega
  simp[Kz e]
def Ak(n:Nat)(d:Int):Option Int->Int
 |none=>d
 |some i=>max 0 (min (if i<0 then i+(n:Int) else i) (n:Int))
theorem uo(n d:Nat)(v:Option Int):Ak n (d:Int) v=((HT.sIx n d v:Nat):Int):=by
 cases v with
 |none=>rfl
 |some v=>
  show max 0 (min (if v<0 then v+(n:Int) else v) (n:Int))=(((if v<0 then(v+(n:Int)).toNat else min v.toNat n:Nat)):Int)
  by_cases a:v<0
  ·rw[q07 a,q07 a,Int.max_def,Int.min_def]
   split<;>split at * <;> omega
  ·rw[q06 a,q06 a,Int.max_def,Int.min_def]
   split<;>split at * <;> omega
theorem vX(lo hi:Option Int)(n:Nat):strSliceIndices lo hi 1 n=sliceRange (Ak n ((0:Nat):Int) lo) (Ak n (n:Int) hi) 1:=by cases lo<;>cases hi<;>rfl
theorem fB(row:LA)(lo hi:Option Int):Txt.slice (tx row) lo hi=tx ((row.drop (HT.sIx row.length 0 lo)).take (HT.sIx row.length row.length hi-HT.sIx row.length 0 lo)):=by
 have hl:=HT.sIx_le row.length 0 (K5 _) lo;have hh:=HT.sIx_le row.length row.length (K4 _) hi;have key:strSliceIndices lo hi 1 (tx row).length=(List.range (HT.sIx row.length row.length hi-HT.sIx row.length 0 lo)).map λm=>HT.sIx row.length 0 lo+m:=by
  rw[aC,vX,uo,uo];generalize HT.sIx row.length 0 lo=a;generalize HT.sIx row.length row.length hi=b;unfold sliceRange;have en:(if(1:Int)>0 then(if(a:Int)<(b:Int) then((b:Int)-(a:Int)+1-1)/1 else 0) else(if(a:Int)>(b:Int) then((a:Int)-(b:Int)-1-1)/(-1) else 0)).toNat=b-a:=by
   rw[q07 (by decide)]
   split<;>omega
  show(List.range (if(1:Int)>0 then(if(a:Int)<(b:Int) then((b:Int)-(a:Int)+1-1)/1 else 0) else(if(a:Int)>(b:Int) then((a:Int)-(b:Int)-1-1)/(-1) else 0)).toNat).map (fun(k:Nat)=>((a:Int)+1*(k:Int)).toNat)=_;rw[en];refine q0K λm _=>?_;omega
 unfold Txt.slice;rw[key];generalize HT.sIx row.length 0 lo=a at hl ⊢;generalize HT.sIx row.length row.length hi=b at hh ⊢
 by_cases hab:a+(b-a)<=row.length
 ·have e:(((List.range (b-a)).map λm=>a+m).filterMap λj=>(tx row).cps[j]?)=(row.drop a).take (b-a):=by
   rw[<- vO row a (b-a) hab]
   congr 1
   funext j
   show row.toArray[j]?=row[j]?;simp
  rw[e]
  split
  ·rename_i hw
   simp at hw;rw[aC]at hw;have ha0:a=0:=by omega
   have hb0:b-a=row.length:=by omega
   rw[ha0,Lw];rw[ha0]at hb0;rw[hb0,Lf]
  ·rfl
 ·exact q0Q hab ⋯
end QL
namespace L2
open PySem PySem.Spec PyProof.Rows
section
variable {X:Cx}{K:Ly}{tg:Expr}
theorem gP(hK:X.K=K):d0 X (.builtin "isinstance") (CA K):=hK▸b_
theorem wu(hK:X.K=K):d0 X (.builtin "len") (λxs H Q=>∃p ys,xs=[.ref p]/\aN K H p ys/\Q (.int ys.length) H):=hK▸aU
theorem Cd(hK:X.K=K):Fk X (zw K):=hK▸rC
end
end L2
namespace PySem
open Sem (wp)
def TrD(cp:Value->Prop)(h base:Heap)(e:Addr)(cls:Value)(od:LL)(fl:Value):Prop:=
 ∃oe vs T oT ts,h.get? e=some oe/\oe.cls=cls/\oe.dict=od/\oe.data=.fields vs/\vs[1]?=some (.ref T)/\base.get? T=none/\T≠e/\h.get? T=some oT/\oT.data=.fields ts/\ts[3]?=some fl/\∃cx,vs[2]?=some cx/\cp cx
end PySem
namespace L2
open PySem PySem.Spec PyProof.Rows
end L2
namespace L2
open PySem PySem.Spec PyProof.Rows
section
variable {X:Cx}{pins:Lz}{σ:St}{H:Hp}{s:LB}
theorem Inv.moved{ch:LD}{h':Heap}{tk:Nat}(I:Inv X pins σ H s)(hf:∀b∈ch,mQ X pins H b)(k:∀b o,b∉ch->s.heap.get? b=some o->h'.get? b=some o):Inv X pins σ H {s with heap:=h',toks:=tk}:=by
 have a:∀b o,H b=some o->b∉ch:=λb o e z=>by rw[(hf b z).1]at e;cases e
 refine I.call' (s':={s with heap:=h',toks:=tk}) (ch:=ch) rfl ⟨λb o e _ _ hc=>k b o hc e,λb o e _ _ hc=>⟨o.slots,k b o hc e⟩,λb o e n hc=>n,λb o e hc=>⟨o,k b o hc e⟩,λb xs q=>q,λb o y q=>q,λb qs q=>⟨#[],by rw[q];simp⟩⟩
  (λb o e=>(I.hok b o e).stay (λc u hc q=>k c u (by
   rcases hc with rfl | hc
   ·exact a _ _ e
   ·exact a _ _ hc) q) (λ_ q=>q) λ_ _ q=>q) I.bare λb d=>?_
 obtain⟨f0,l,f2,j,i,g⟩:=hf b d;exact⟨j,l,i,g⟩
theorem Inv.movedT{ch:LD}{h':Heap}{tk:Nat}{T:Addr}{ob:HO}(I:Inv X pins σ H s)(hf:∀b∈ch,mQ X pins H b)(k:∀b o,b∉ch->s.heap.get? b=some o->h'.get? b=some o)(hT:s.heap.objs.size<=T)(new:b8 X.prog X.w (aE H T ob) h' T ob) :
  Inv X pins σ (aE H T ob) {s with heap:=h',toks:=tk}:=by
 have g:∀b o,H b=some o->b∉ch:=λb o e z=>by rw[(hf b z).1]at e;cases e
 have a:H T=none:=I.hok.fresh hT;have j:∀b o,s.heap.get? b=some o->b≠T:=λb o e z=>by rw[z]at e;exact q0Q (K7 e) (Nat.not_lt.mpr hT)
 refine I.call' (s':={s with heap:=h',toks:=tk}) (ch:=ch) rfl ⟨λb o e _ _ hc=>k b o hc e,λb o e _ _ hc=>⟨o.slots,k b o hc e⟩,λb o e n hc=>by rw[av (j b o e)];exact n,λb o e hc=>⟨o,k b o hc e⟩,λb i q=>by rw[av (aK q a)];exact q,λb o y q=>by rw[av (aK q a)];exact q,λb qs q=>⟨#[],by rw[av (aK q a),q];simp⟩⟩
  (λb o e=>?_) I.bare λb d=>?_
 ·by_cases d:b=T
  ·subst d
   rw[af]at e;cases e;exact new
  ·rw[av d]at e
   exact(I.hok b o e).stay (λc u hc q=>k c u (by
    rcases hc with rfl | hc
    ·exact g _ _ e
    ·exact g _ _ hc) q) (λc q=>by rw[av (aK q a)];exact q) λc i q=>by rw[av (aK q a)];exact q
 ·obtain⟨f0,r,f2,p,m,l⟩:=hf b d
  exact⟨p,r,m,l⟩
end
def Gk(K:Ly)(a b:Addr):It:=
 ⟨λi H=>∃xs ys x y,aN K H a xs/\aN K H b ys/\xs[i]?=some x/\ys[i]?=some y,λi H v H'=>∃T x y,v=.ref T/\H T=none/\H'=aE H T (.tup [x,y])/\(∀xs,aN K H a xs->xs[i]?=some x)/\∀ys,aN K H b ys->ys[i]?=some y,
  λi H=>∃xs ys,aN K H a xs/\aN K H b ys/\(xs.length<=i\/ys.length<=i)⟩
theorem A1{K:Ly}{elts:LM}{tp:Pos}{TI TO:Addr}(D:ZipApart z TI TO i1 i2 l1 l2) :
  qd P w K (.Tuple elts x1 tp) (Gk K l1 l2) [z,TI,TO,i1,i2] z (λi h=>IsZip h z TI TO .none/\IsPair h TI (.ref i1) (.ref i2)/\(∃a b,IsPair h TO a b)/\h.IsListIter i1 l1 i/\h.IsListIter i2 l2 i) where
 mem:=by simp
 obj:=λi h m b J=>by
  obtain⟨n,d,⟨a,c,g⟩,⟨o1,e1,c1,d1⟩,⟨o2,e2,c2,d2⟩⟩:=m;simp only[KU,List.not_mem_nil,or_false]at J;rcases J with rfl | rfl | rfl | rfl | rfl
  ·exact⟨_,n,λv q=>by cases q⟩
  ·exact⟨_,d,λv q=>by cases q⟩
  ·exact⟨_,g,λv q=>by cases q⟩
  ·exact⟨_,e1,λv q=>by rw[d1]at q;cases q⟩
  ·exact⟨_,e2,λv q=>by rw[d2]at q;cases q⟩
 keep:=λi h h' m l=>by
  obtain⟨n,d,⟨a,b,g⟩,h1,h2⟩:=m;exact⟨l z (by simp) _ n,l TI (by simp) _ d,⟨a,b,l TO (by simp) _ g⟩,h1.at λo e=>l i1 (by simp) o e,h2.at λo e=>l i2 (by simp) o e⟩
 item:=by
  intro X hP hw hK k i L s σ H E I hf m hg;subst hP hw hK;obtain⟨xs,ys,x,y,r,p,hx,hy⟩:=hg;obtain⟨O,B,p1,a7⟩:=I.list r;obtain⟨M,u,Z,a0⟩:=I.list p;obtain⟨T,b0,Y⟩:=B.get hx;obtain⟨S,a9,U⟩:=u.get hy;obtain⟨n,d,⟨a,b,g⟩,h1,h2⟩:=m;refine wpAny_pyNext_zip_item D n d g h1 h2 p1.isList Z.isList (x:=T) (y:=S) (by simpa using b0) (by simpa using a9) λh' a1 a2 a3 a4 a5 a6 l=>?_;refine⟨_,rfl,wpAny_letOwnedTupleGo_zip a1 λR a8 j=>?_⟩;have G:H s.heap.objs.size=none:=I.hok.fresh (K4 _);have lt:∀{c o},s.heap.get? c=some o->s.heap.objs.size≠c:=λe=>Nat.ne_of_gt (K7 e);have kk:∀c o,c∉[z,TI,TO,i1,i2]->s.heap.get? c=some o->R.get? c=some o:=λc o k e=>
   j.extBut _ _ (λq=>k (by simp[q])) (l c o (λq=>k (by simp[q])) (λq=>k (by simp[q])) (λq=>k (by simp[q])) (λq=>k (by simp[q])) e)
  have hT:R.get? s.heap.objs.size=some {cls:=.type "tuple",data:=.seq #[T,S]}:=j.extBut _ _ (lt n) a5;refine⟨.ref s.heap.objs.size,aE H s.heap.objs.size (.tup [x,y]),I.movedT (tk:=s.toks) hf kk (K4 _) ⟨show 2<=sizeLine from by decide +kernel,[T,S],.cons Y (.cons U .nil),_,hT,rfl,_,rfl⟩,rfl,
   ⟨_,x,y,rfl,G,rfl,λzs C=>by rw[I.list_inj C r];exact hx,λzs C=>by rw[I.list_inj C p];exact hy⟩,
   ⟨a8,j.extBut _ _ D.TIz (l _ _ D.TIz D.TITO D.TIi1 D.TIi2 d),⟨_,_,j.extBut _ _ D.TOz a2⟩,a3.extBut j.extBut D.i1z,a4.extBut j.extBut D.i2z⟩,λb J=>?_⟩
  have b1:b≠s.heap.objs.size:=by
   obtain⟨o1,e1,_⟩:=h1;obtain⟨o2,e2,_⟩:=h2;simp only[KU,List.not_mem_nil,or_false]at J;rcases J with rfl | rfl | rfl | rfl | rfl
   ·exact(lt n).symm
   ·exact(lt d).symm
   ·exact(lt g).symm
   ·exact(lt e1).symm
   ·exact(lt e2).symm
  rw[av b1];exact(hf b J).1
 done:=by
  intro X hP hw hK k i L s σ H E I hf m hg;subst hP hw hK;obtain⟨xs,ys,r,p,hx⟩:=hg;obtain⟨O,B,p1,a7⟩:=I.list r;obtain⟨M,u,Z,a0⟩:=I.list p;obtain⟨n,d,⟨a,b,g⟩,h1,h2⟩:=m;have l1':=B.length;have l2':=u.length;refine wpAny_pyNext_zip_end (I.ok.hd k) D n d g h1 h2 p1.isList Z.isList ?_ λh' l=>⟨rfl,I.moved (tk:=s.toks) hf λc o k e=>l c o (λq=>k (by simp[q])) (λq=>k (by simp[q])) (λq=>k (by simp[q])) (λq=>k (by simp[q])) e⟩;rcases hx with hx | hx
  ·exact .inl (by simp;omega)
  ·exact .inr (by simp;omega)
 self:=λ_ _ _ _ _ m h=>wpAny_pyIter_zip m.1 h
theorem yZ(n l1 l2:Nat)(h1:l1<n)(h2:l2<n):ZipApart (n+4) (n+2) (n+3) n (n+1) l1 l2:=by
 constructor<;>exact λe=>q0Q (show(_:Nat)=_ from e) ⋯
section
variable {X:Cx}{elts:LM}{x1:Nat}{tp:Pos}
def Fb(K:Ly)(ta:TA):TI:=λσ H R=>ta σ H λvs H1=>∃a b xs ys,vs=[.ref a,.ref b]/\aN K H1 a xs/\aN K H1 b ys/\R (Gk K a b) H1
theorem Ba{a b:Expr}{ta:TA}{p pos:Pos}(hg:Gl X "zip")(hm:X.mg "zip"=none)(ha:PA X [a,b] ta)(hs:autoParam (starEach [a,b] X.env=[(false,eval a X.env),(false,eval b X.env)]) zz0._auto_1)(hs2:autoParam (starEach [b] X.env=[(false,eval b X.env)]) zz0._auto_1):PI X (.Tuple elts x1 tp) (.Call (.Name "zip" p) [a,b] [] pos) (Fb X.K ta):=by
 intro d s σ H R I h;refine Call_ (eV I hg hm boot_zip (PyProof.Rows.callWith_type1 (cz (ha pos d s σ H _ I h) λus c ⟨vs,H1,i,G,J⟩=>?_) (by rw[hs,hs2]) (by rw[hs2];rfl)));obtain⟨l1,l2,xs,ys,rfl,m,l,q⟩:=J;obtain⟨u,v,rfl,D,C⟩:=G.two;cases D;cases C;obtain⟨its1,rv1,r,_⟩:=i.list m;obtain⟨its2,rv2,o,_⟩:=i.list l;refine call_zip_2 r.isList o.isList λM n B z y x z6 L=>?_;have k:l1<c.heap.objs.size:=by obtain⟨_,e,_⟩:=r.isList;exact K7 e
 have j:l2<c.heap.objs.size:=by obtain⟨_,e,_⟩:=o.isList;exact K7 e
 have O:Inv X d σ H1 {c with heap:=M }:=i.kept (t':=c.toks) L;refine wpAny_pyIter_zip n ?_;refine⟨c.heap.objs.size+4,[c.heap.objs.size+4,c.heap.objs.size+2,c.heap.objs.size+3,c.heap.objs.size,c.heap.objs.size+1],_,_,H1,rfl,O,A1 (l1:=l1) (l2:=l2) ?_,⟨n,B,⟨_,_,z⟩,y,x⟩,λb w=>?_,q⟩
 ·exact yZ _ _ _ k j
 ·have g:c.heap.objs.size<=b:=by
   simp only[KU,List.not_mem_nil,or_false]at w;rcases w with e | e | e | e | e<;>(rw[e];first | exact K4 _ | exact Nat.le_add_right _ _)
  exact i.fpOk g (i.hok.fresh g)
end
end L2
namespace PySem.W
open PySem PySem.Spec PySem.Calls PyProof.Rows
section
variable {prog:LH}{w:LK}{A:LJ}{E:Lx}{s:LB}{K:Frag}{x D:Addr}{ox:Obj}{odo:Option Obj}{name:Str}
end
end PySem.W
namespace L2
open PySem PySem.Spec PyProof.Rows
theorem m6{X:Cx}{K:Ly}{es:LM}{t:Em}{n:Nat}{pos:Pos}(hK:X.K=K)(hc:X.calm=true)(h:FV X es t)
  (hn:autoParam ((assignEach es X.env).length=n) zz0._auto_1) (hst:autoParam ((assignEach es X.env).findIdx? (·.1)=none) zz0._auto_1):PG X (.Tuple es k pos) (Cq K n t):=hK▸ip hc h hn hst
section
variable {K:Ly}{g:TG}{ti:TT}{te:TE}{σ:St}{H:Hp}{Q:List V->Hp->Prop}
theorem Ce{b:Addr}{xs ys:List V}{n:Nat}(hn:n=min xs.length ys.length)(Pv:Nat->List V->St->Hp->Prop)(h0:Pv 0 [] σ H)(hz:∀i acc σ H,Pv i acc σ H->acc.length<sizeLine)(hi:∀i acc σ H,Pv i acc σ H->i<=n)
  (hl:∀i acc σ H,Pv i acc σ H->aN K H a xs/\aN K H b ys)
  (hs:∀i x y acc σ H T,xs[i]?=some x->ys[i]?=some y->Pv i acc σ H->H T=none->g (.ref T) σ (aE H T (.tup [x,y])) λσ2 H3=>ti σ2 H3 λb H4=>if b=true then te σ2 H4 λv H5=>Pv (i+1) (acc++[v]) σ2 H5 else Pv (i+1) acc σ2 H4)
  (he:∀acc σ H,Pv n acc σ H->Q acc H):fJ (Gk K a b) g ti te σ H Q:=by
 refine i9 (J:=Gk K a b) (g:=g) (ti:=ti) (te:=te) (Q:=Q) (n:=n) Pv h0 hz hi (λacc σ H w=>⟨xs,ys,(hl _ _ _ _ w).1,(hl _ _ _ _ w).2,⋯⟩)
  (λi acc σ H hlt w=>⟨xs,ys,xs[i]'⋯,ys[i]'⋯,(hl _ _ _ _ w).1,(hl _ _ _ _ w).2,Kz ⋯,Kz ⋯⟩) (λi x acc σ H H2 hlt w y=>?_) he
 obtain⟨T,x,y,rfl,e,rfl,d,c⟩:=y;exact hs i x y acc σ H T (d xs (hl _ _ _ _ w).1) (c ys (hl _ _ _ _ w).2) w e
end
end L2
namespace L2
open PySem PySem.Spec PyProof.Rows
def Gv(K:Ly)(a:Addr):It:=
 ⟨λi H=>∃xs x,aN K H a xs/\xs[i]?=some x,λi H v H'=>∃T x,v=.ref T/\H T=none/\H'=aE H T (.tup [.int (i:Int),x])/\∀xs,aN K H a xs->xs[i]?=some x,λi H=>∃xs,aN K H a xs/\xs.length<=i⟩
theorem zG{K:Ly}{elts:LM}{tp:Pos}{e it:Addr}(hei:e≠it) :
  qd P w K (.Tuple elts x1 tp) (Gv K l) [e,it] e (λi h=>(∃old,IsEnum h e it i old)/\h.IsListIter it l i) where
 mem:=by simp
 obj:=λi h d b n=>by
  obtain⟨⟨old,a⟩,⟨Z,S,c1,d1⟩⟩:=d;simp only[KU,List.not_mem_nil,or_false]at n;rcases n with rfl | rfl
  ·exact⟨_,a,λv q=>by cases q⟩
  ·exact⟨_,S,λv q=>by rw[d1]at q;cases q⟩
 keep:=λi h T d m=>by
  obtain⟨⟨old,a⟩,h1⟩:=d;exact⟨⟨old,m e (by simp) _ a⟩,h1.at λo e'=>m it (by simp) o e'⟩
 item:=by
  intro X O J R g i r s σ H E I hf d hg;subst O J R;obtain⟨U,x,y,G⟩:=hg;obtain⟨C,B,p,hz⟩:=I.list y;obtain⟨u,hu,Y⟩:=B.get G;obtain⟨⟨old,a⟩,h1⟩:=d;obtain⟨Z,S,_⟩:=id h1;refine wpAny_pyNext_enum_item a h1 p.isList (x:=u) (by simpa using hu) hei λT a1 a2 a3 a4 m=>?_;refine⟨_,rfl,wpAny_letOwnedTupleGo_enum a1 λh2 M j=>?_⟩;have k:H s.heap.objs.size=none:=I.hok.fresh (K4 _);have lt:∀{c o},s.heap.get? c=some o->s.heap.objs.size≠c:=λe=>Nat.ne_of_gt (K7 e);have kk:∀c o,c∉[e,it]->s.heap.get? c=some o->h2.get? c=some o:=λc o g q=>
   j.extBut _ _ (λz=>g (by simp[z])) (m c o (λz=>g (by simp[z])) (λz=>g (by simp[z])) q)
  have hT:h2.get? s.heap.objs.size=some {cls:=.type "tuple",data:=.seq #[.int i s.toks,u]}:=j.extBut _ _ (lt a) a3;refine⟨.ref s.heap.objs.size,aE H s.heap.objs.size (.tup [.int i,x]),I.movedT (tk:=s.toks+1) hf kk (K4 _) ⟨show 2<=sizeLine from by decide +kernel,[.int i s.toks,u],.cons ⟨_,rfl⟩ (.cons Y .nil),_,hT,rfl,_,rfl⟩,rfl,
   ⟨_,x,rfl,k,rfl,λzs D=>by rw[I.list_inj D y];exact G⟩,⟨⟨u,by simpa using M⟩,a2.extBut j.extBut (Ne.symm hei)⟩,λb n=>?_⟩
  have L:b≠s.heap.objs.size:=by
   simp only[KU,List.not_mem_nil,or_false]at n;rcases n with rfl | rfl
   ·exact(lt a).symm
   ·exact(lt S).symm
  rw[av L];exact(hf b n).1
 done:=by
  intro X O J R g i r s σ H E I hf d hg;subst O J R;obtain⟨U,y,G⟩:=hg;obtain⟨C,B,p,hz⟩:=I.list y;obtain⟨⟨old,a⟩,h1⟩:=d;have l1':=B.length;refine wpAny_pyNext_enum_end (I.ok.hd g) a h1 p.isList (by simp;omega) λT m=>⟨rfl,I.moved (tk:=s.toks) hf λc o g e=>m c o (λq=>g (by simp[q])) e⟩
 self:=λ_ _ _ _ _ d h=>let ⟨⟨_,a⟩,_⟩:=d;wpAny_pyIter_enum a h
section
variable {X:Cx}{elts:LM}{x1:Nat}{tp:Pos}
def BB(K:Ly)(ta:TA):TI:=λσ H R=>ta σ H λvs H1=>∃a xs,vs=[.ref a]/\aN K H1 a xs/\R (Gv K a) H1
theorem rB{a:Expr}{ta:TA}{p pos:Pos}(hg:Gl X "enumerate")(hm:X.mg "enumerate"=none)(ha:PA X [a] ta)(hs:autoParam (starEach [a] X.env=[(false,eval a X.env)]) zz0._auto_1):PI X (.Tuple elts x1 tp) (.Call (.Name "enumerate" p) [a] [] pos) (BB X.K ta):=by
 intro c s σ H R I h;refine Call_ (eV I hg hm boot_enumerate (PyProof.Rows.callWith_type1 (cz (ha pos c s σ H _ I h) λus d ⟨vs,H1,i,o,r⟩=>?_) (by rw[hs];rfl) (by rfl)));obtain⟨l,xs,rfl,w,q⟩:=r;obtain⟨u,rfl,n⟩:=o.one;cases n;obtain⟨its,rv,v,_⟩:=i.list w;refine call_enumerate_list v.isList λy j m z3 x=>?_;have z:Inv X c σ H1 {d with heap:=y }:=i.kept (t':=d.toks) x;refine wpAny_pyIter_enum j ?_;refine⟨d.heap.objs.size+1,[d.heap.objs.size+1,d.heap.objs.size],_,_,H1,rfl,z,zG (l:=l) (Nat.ne_of_gt (Lb _)),⟨⟨_,j⟩,m⟩,λb k=>?_,q⟩;have g:d.heap.objs.size<=b:=by
  simp only[KU,List.not_mem_nil,or_false]at k;rcases k with e | e<;>(rw[e];first | exact K4 _ | exact Nat.le_add_right _ _)
 exact i.fpOk g (i.hok.fresh g)
end
section
variable {K:Ly}{g:TG}{tb:TS}{D:fF}{σ:St}{H:Hp}
theorem qy{xs:List V}(Pv:Nat->St->Hp->Prop)(h0:Pv 0 σ H)(hl:∀i σ H,i<=xs.length->Pv i σ H->aN K H a xs)
  (hs:∀(i:Nat) x σ H T,xs[i]?=some x->Pv i σ H->H T=none->g (.ref T) σ (aE H T (.tup [.int (i:Int),x])) λσ2 H2=>tb {D with nx:=Pv (i+1),ct:=Pv (i+1),bk:=D.nx} σ2 H2) (hd:∀σ H,Pv xs.length σ H->D.nx σ H):rK (Gv K a) g tb D σ H:=by
 refine⟨λi m σ H=>m=xs.length-i/\i<=xs.length/\Pv i σ H,⟨xs.length,by simp,K5 _,h0⟩,?_⟩;rintro i m σ H ⟨rfl,c,p⟩;have q:=hl i σ H c p
 by_cases b:i<xs.length
 ·refine .inr ⟨⟨xs,xs[i],q,by simp[b]⟩,Pv (i+1),λσ' j p'=>⟨xs.length-(i+1),⋯,rfl,b,p'⟩,λx j y=>?_⟩
  obtain⟨T,x,rfl,d,rfl,y⟩:=y;exact hs i x σ _ T (y xs q) p d
 ·have e:i=xs.length:=by omega
  subst e;exact .inl ⟨⟨xs,q,K4 _⟩,hd σ H p⟩
end
end L2
namespace PySem.W
open PySem PySem.Spec PySem.Calls PyProof.Rows
open Builtin Builtin.ObjectAttr
def Ej:List Value->List Value
 | .ref _::r=>Ej r
 |l=>l
end PySem.W
namespace L2
open PySem PySem.Spec PyProof.Rows
end L2
namespace PySem.W
open PySem PySem.Spec PySem.Calls PyProof.Rows
end PySem.W
namespace SpM
open PySem
def glue(c:Nat):List (List Nat)->List Nat
 | []=>[]
 | [p]=>p
 |p::q::r=>p++c::glue c (q::r)
def step(c:Nat)(rows:List (List Nat))(d:Nat):List (List Nat):=if d=c then rows++[[]] else rows.dropLast++[rows.getLastD []++[d]]
def parts(c:Nat)(x:LA):List (List Nat):=x.foldl (step c) [[]]
theorem ym{c:Nat}:∀{p q a b:LA},c∉p->c∉q->p++c::a=q++c::b->p=q/\a=b
 | [],[],a,b,_,_,e=>⟨rfl,by simpa using e⟩
 | [],y::q,a,b,_,hq,e=>by simp at e;exact q0Q e.1 (λz=>hq (by simp[z]))
 |x::p,[],a,b,hp,_,e=>by simp at e;exact q0Q e.1.symm (λz=>hp (by simp[z]))
 |x::p,y::q,a,b,hp,hq,e=>by
  simp at e;obtain⟨e1,e2⟩:=ym (p:=p) (q:=q) (λz=>hp (by simp[z])) (λz=>hq (by simp[z])) e.2;exact⟨by rw[e.1,e1],e2⟩
theorem glue_inj(c:Nat):∀{rows rows':List (List Nat)},rows≠[]->rows'≠[]->(∀p∈rows,c∉p)->(∀p∈rows',c∉p)->glue c rows=glue c rows'->rows=rows'
 | [p],[q],_,_,_,_,e=>by simpa[glue]using e
 | [p],q::q'::r,_,_,hf,_,e=>by
  have:c∈p:=by rw[show p=q++c::glue c (q'::r) from e];simp
  exact q0Q this (hf p (by simp))
 |p::p'::r,[q],_,_,_,hf,e=>by
  have:c∈q:=by rw[show q=p++c::glue c (p'::r) from e.symm];simp
  exact q0Q this (hf q (by simp))
 |p::p'::r,q::q'::r',_,_,h1,h2,e=>by
  obtain⟨d,b⟩:=ym (h1 p (by simp)) (h2 q (by simp)) (show p++c::glue c (p'::r)=q++c::glue c (q'::r') from e);have:=glue_inj c (rows:=p'::r) (rows':=q'::r') (by simp) (by simp) (λz a=>h1 z (by simp[a])) (λz a=>h2 z (by simp[a])) b;rw[d,this]
theorem join_glue(c:Nat):∀(ys:LI),(Builtin.Str.glued ⟨#[c]⟩ ys).cps.toList=glue c (ys.map λy=>y.cps.toList)
 | []=>rfl
 |y::ys=>by
  have key:∀(zs:LI) (a:Array Nat),(zs.foldl (λacc (p:Str)=>acc++(⟨#[c]⟩:Str).cps++p.cps) a).toList=glue c (a.toList::zs.map λy=>y.cps.toList):=by
   intro zs
   induction zs with
   |nil=>intro a;rfl
   |cons z zs ih=>
    intro a;rw[List.foldl_cons,ih];show glue c ((a ++ #[c]++z.cps).toList::_)=a.toList++c::glue c (z.cps.toList::_);have e:(a ++ #[c]++z.cps).toList=a.toList++c::z.cps.toList:=by simp
    rw[e];cases zs with
    |nil=>simp[glue]
    |cons w ws=>simp[glue]
  exact key ys y.cps
end SpM
namespace PyProof.Rows
open PySem PySem.Spec PySem.Builtin PySem.Builtin.Str
end PyProof.Rows
namespace L2
open PySem PySem.Spec PyProof.Rows QL
structure Cn(K:Ly)(C:Addr)(m:Str)(f:Addr):Prop where
 sp:PySem.W.specialIn K (.ref C) "__getattribute__"=some (some (.builtin "type.__getattribute__"))
 rd:PySem.W.readsIn K C (.type "type")=true
 fi:PySem.W.findCls K (.ref C) (.type "type") m=some (.val (.ref f))
 kp:PySem.W.keepIn K (.ref f)=true
section
variable {X:Cx}{CX:j6}{k:Nat}{f C:Addr}{fd:LG}{ps:LI}{sp:Sp}{E:XK}{x m:Str}{p pos apos:Pos}{e:Expr}{es:LM}{t:TA}
theorem Bk{pl:Sem Bool}(c:Cn X.K C m f)(F:bC X.prog X.w X.K X.mg X.base CX k f fd ps sp)(hr:c8 k X.A)(hg:Gl X x)(hm:X.mg x=some (.ref C))(hb:dQ X.K fd ps [])(hx:dF CX X E)(ha:PA X (e::es) t)
  (hdb:autoParam ((x==("__debug__":Str))=false) zz3._auto_1) (hst:autoParam (starEach (e::es) X.env=(false,eval e X.env)::starEach es X.env) zz0._auto_1) (hpl:autoParam ((backTo pos (starEach es X.env)).any (·.1)=false) zz0._auto_1)
  (ht:autoParam (eval (.Call (.Attribute (.Name x p) m apos) (e::es) [] pos) X.env=(do
   let ov <- eval (.Name x p) X.env
   standAt apos.atName
   let (f,first) <- holding [ov] (getMethod ov m pl)
   callWith pos f first (backTo pos (starEach (e::es) X.env)) (backToKw pos (keywordEach [] X.env)))) zz0._auto_1) :
  PE X (.Call (.Attribute (.Name x p) m apos) (e::es) [] pos) (l_ sp [] E t):=by
 intro a s σ H Q I h;refine PySem.W.methodCall_KW (pl:=pl) (m9 I hg hm ?_ hdb) ht;refine PySem.W.method_cls I.kIn c.sp (PySem.W.cls_value I.kIn c.rd c.fi rfl ?_);have g:=I.tok (s.toks+1);refine PySem.W.callWith_K (first:=[]) (h₀:=X.base) I.ok.mod.kin c.kp (cz (ha pos a _ σ H _ g h) λus s2 ⟨vs,H2,b,r,d⟩=>⟨b.kIn,?_⟩) hst hpl;exact lv F hr hb .nil hx b r d
end
section
variable (P:LH)(w:LK)(K:Ly)(mg:LF)(base:Heap)(CX:j6)
structure zm(k:Nat)(x m:Str)(ps:LI)(sp:Sp):Prop where
 ex:∃(C f:Addr) (fd:LG),bC P w K mg base CX k f fd ps sp/\mg x=some (.ref C)/\Cn K C m f/\dQ K fd ps []
structure kT(k:Nat)(x:Str)(C:Addr)(ps:LI)(sp:Sp):Prop where
 ex:∃(f:Addr) (fd:LG),bC P w K mg base CX k f fd ps sp/\mg x=some (.ref C)/\Mk K C f/\dQ K fd ps []
structure jp(k:Nat)(C:Addr)(m:Str)(ps:LI)(sp:Sp):Prop where
 ex:∃(f:Addr) (fd:LG),bC P w K mg base CX k f fd ps sp/\jF K C/\iI K C m f/\dQ K fd ps []
end
section
variable {X:Cx}{CX:j6}{k:Nat}{C:Addr}{ps:LI}{sp:Sp}{E:XK}{x m:Str}{p pos apos:Pos}{e o:Expr}{es:LM}{t:TA}{ta:TE}
theorem nj{pl:Sem Bool}(c:zm X.prog X.w X.K X.mg X.base CX k x m ps sp)(hr:c8 k X.A)(hg:Gl X x)(hx:dF CX X E)(ha:PA X (e::es) t)
  (hdb:autoParam ((x==("__debug__":Str))=false) zz3._auto_1) (hst:autoParam (starEach (e::es) X.env=(false,eval e X.env)::starEach es X.env) zz0._auto_1) (hpl:autoParam ((backTo pos (starEach es X.env)).any (·.1)=false) zz0._auto_1)
  (ht:autoParam (eval (.Call (.Attribute (.Name x p) m apos) (e::es) [] pos) X.env=(do
   let ov <- eval (.Name x p) X.env
   standAt apos.atName
   let (f,first) <- holding [ov] (getMethod ov m pl)
   callWith pos f first (backTo pos (starEach (e::es) X.env)) (backToKw pos (keywordEach [] X.env)))) zz0._auto_1) :
  PE X (.Call (.Attribute (.Name x p) m apos) (e::es) [] pos) (l_ sp [] E t):=by
 obtain⟨C,f,fd,F,a,d,b⟩:=c.ex;exact Bk d F hr hg a b hx ha hdb hst hpl ht
theorem jg(c:kT X.prog X.w X.K X.mg X.base CX k x C ps sp)(hr:c8 (k+1) X.A)(hg:Gl X x)(hx:dF CX X E)(ha:PA X (e::es) t)
  (hdb:autoParam ((x==("__debug__":Str))=false) zz3._auto_1) (hst:autoParam (starEach (e::es) X.env=(false,eval e X.env)::starEach es X.env) zz0._auto_1) (hpl:autoParam ((backTo pos (starEach es X.env)).any (·.1)=false) zz0._auto_1) :
  PE X (.Call (.Name x p) (e::es) [] pos) (ye C sp [] E t):=by
 obtain⟨f,fd,F,a,M,b⟩:=c.ex;exact Da M F hr hg a b .nil hx ha hdb hst hpl
theorem rM{pl:Sem Bool}(c:jp X.prog X.w X.K X.mg X.base CX k C m ps sp)(hr:c8 k X.A)(hx:dF CX X E)(he:PE X o ta)(ha:PA X (e::es) t)
  (hst:autoParam (starEach (e::es) X.env=(false,eval e X.env)::starEach es X.env) zz0._auto_1) (hpl:autoParam ((backTo pos (starEach es X.env)).any (·.1)=false) zz0._auto_1)
  (ht:autoParam (eval (.Call (.Attribute o m apos) (e::es) [] pos) X.env=(do
   let ov <- eval o X.env
   standAt apos.atName
   let (f,first) <- holding [ov] (getMethod ov m pl)
   callWith pos f first (backTo pos (starEach (e::es) X.env)) (backToKw pos (keywordEach [] X.env)))) zz0._auto_1) :
  PE X (.Call (.Attribute o m apos) (e::es) [] pos) (rm C m sp [] E ta t):=by
 obtain⟨f,fd,F,d,a,b⟩:=c.ex;exact CL he d a F hr b .nil hx ha hst hpl ht
theorem pd{pl:Sem Bool}(c:jp X.prog X.w X.K X.mg X.base CX k C m ps sp)(hr:c8 k X.A)(hx:dF CX X E)(he:PE X o ta)
  (ht:autoParam (eval (.Call (.Attribute o m apos) [] [] pos) X.env=(do
   let ov <- eval o X.env
   standAt apos.atName
   let (f,first) <- holding [ov] (getMethod ov m pl)
   callWith pos f first (backTo pos (starEach [] X.env)) (backToKw pos (keywordEach [] X.env)))) zz0._auto_1) :
  PE X (.Call (.Attribute o m apos) [] [] pos) (rm C m sp [] E ta om):=by
 obtain⟨f,fd,F,d,a,b⟩:=c.ex;exact B8 he d a F hr b .nil hx ht
end
section
variable {g:TG}{ti:TT}{te:TE}{σ:St}{H:Hp}{Q:List V->Hp->Prop}
theorem AX{x:Str}(Pv:Nat->List V->St->Hp->Prop)(h0:Pv 0 [] σ H)(hz:∀i acc σ H,Pv i acc σ H->acc.length<sizeLine)(hi:∀i acc σ H,Pv i acc σ H->i<=x.cps.size)
  (hs:∀i c acc σ H,x.cps[i]?=some c->Pv i acc σ H->g (.str ⟨#[c]⟩) σ H λσ2 H3=>ti σ2 H3 λb H4=>if b=true then te σ2 H4 λv H5=>Pv (i+1) (acc++[v]) σ2 H5 else Pv (i+1) acc σ2 H4)
  (he:∀acc σ H,Pv x.cps.size acc σ H->Q acc H):fJ (FT x) g ti te σ H Q:=by
 exact i9 (J:=FT x) (g:=g) (ti:=ti) (te:=te) (Q:=Q) (n:=x.cps.size) Pv h0 hz hi (λacc σ H w=>K4 _) (λi acc σ H hlt w=>hlt)
  (λi v acc σ H H2 hlt w y=>by obtain⟨rfl,c,a,rfl⟩:=y;exact hs i c acc σ H2 a w) he
end
section
variable (P:LH)(w:LK)(K:Ly)(mg:LF)(base:Heap)(CX:j6)
structure v4(k:Nat)(m:Str)(os:List (Addr×Sp)):Prop where
 ex:∀o∈os,∃ps,jp P w K mg base CX k o.1 m ps o.2
end
def tf(m:Str)(os:List (Addr×Sp))(E:XK)(ta:TE)(t:TA):TE:=λσ H Q=>ta σ H λx H1=>∃o∈os,∃a dx fs,x=.ref a/\H1 a=some (.ins o.1 dx fs)/\fs.lookup m=none /\
 t σ H1 λvs H2=>o.2 (x::(vs++[])) H2 Q E
section
variable {X:Cx}{CX:j6}{k:Nat}{os:List (Addr×Sp)}{E:XK}{m:Str}{pos apos:Pos}{e o:Expr}{es:LM}{t:TA}{ta:TE}
theorem Dw{pl:Sem Bool}(c:v4 X.prog X.w X.K X.mg X.base CX k m os)(hr:c8 k X.A)(hx:dF CX X E)(he:PE X o ta)(ha:PA X (e::es) t)
  (hst:autoParam (starEach (e::es) X.env=(false,eval e X.env)::starEach es X.env) zz0._auto_1) (hpl:autoParam ((backTo pos (starEach es X.env)).any (·.1)=false) zz0._auto_1)
  (ht:autoParam (eval (.Call (.Attribute o m apos) (e::es) [] pos) X.env=(do
   let ov <- eval o X.env
   standAt apos.atName
   let (f,first) <- holding [ov] (getMethod ov m pl)
   callWith pos f first (backTo pos (starEach (e::es) X.env)) (backToKw pos (keywordEach [] X.env)))) zz0._auto_1) :
  PE X (.Call (.Attribute o m apos) (e::es) [] pos) (tf m os E ta t):=by
 intro b s σ H Q I h;refine PySem.W.methodCall_KW (pl:=pl) (cz (he b s σ H _ I h) λu j ⟨x,H1,i,n,v,w,a,dx,fs,ex,z,l,q⟩=>?_) ht;subst ex;obtain rfl:u=Value.ref a:=n;obtain⟨ps,B⟩:=c.ex v w;obtain⟨f,fd,F,C,d,y⟩:=B.ex;refine fR i z C d l ?_;refine PySem.W.callWith_K (first:=[.ref a]) (h₀:=X.base) I.ok.mod.kin d.kp (cz (ha pos b j σ H1 _ i q) λus s2 ⟨vs,H2,g,r,p⟩=>⟨g.kIn,?_⟩) hst hpl;exact lv (us:=.ref a::us) (vs:=.ref a::vs) F hr y .nil hx g (.cons rfl r) p
theorem BZ{pl:Sem Bool}(c:v4 X.prog X.w X.K X.mg X.base CX k m os)(hr:c8 k X.A)(hx:dF CX X E)(he:PE X o ta)
  (ht:autoParam (eval (.Call (.Attribute o m apos) [] [] pos) X.env=(do
   let ov <- eval o X.env
   standAt apos.atName
   let (f,first) <- holding [ov] (getMethod ov m pl)
   callWith pos f first (backTo pos (starEach [] X.env)) (backToKw pos (keywordEach [] X.env)))) zz0._auto_1) :
  PE X (.Call (.Attribute o m apos) [] [] pos) (tf m os E ta om):=by
 intro b s σ H Q I h;refine PySem.W.methodCall_KW (pl:=pl) (cz (he b s σ H _ I h) λu s1 ⟨x,H1,d,g,i,j,a,dx,fs,ex,p,l,q⟩=>?_) ht;subst ex;obtain rfl:u=Value.ref a:=g;obtain⟨ps,r⟩:=c.ex i j;obtain⟨f,fd,F,v,e,n⟩:=r.ex;refine fR d p v e l ?_;exact PySem.W.callWith_K0 (first:=[.ref a]) d.kIn e.kp (lv (us:=[.ref a]) (vs:=[.ref a]) F hr n .nil hx d (.cons rfl .nil) q)
end
structure jl(K:Ly)(C:Addr):Prop where
 cl:jF K C
 ha:PySem.W.findIn K (.ref C) "__class__"=some (some (.builtin "object.__class__"))
 hn:PySem.W.specialIn K (.builtin "object.__class__") "__get__"=some (some (.builtin "getset_descriptor.__get__"))
 htk:PySem.W.takesIn K (.builtin "object.__class__")=some true
 hm:PySem.W.mroIn K C (.type "object")=some true
theorem jl.ty{K:Ly}{H:Hp}{fs:List (Str×V)}(i:jl K C)(e:H a=some (.ins C dx fs)):jm K H (.ref a) (.ref C):=.ins e i.cl i.ha i.hn i.htk i.hm
section
variable {X:Cx}{es:LM}{t:TA}
theorem fO{x j p}(hr:PA X es t):PA X (.Constant (.str x) j p::es) (jB (tC (.str x)) t):=ac nV hr rfl
theorem cy{x j p}(hr:PA X es t):PA X (.Constant (.int x) j p::es) (jB (tC (.int x)) t):=ac aj hr rfl
end
end L2
namespace PyProof.Rows
open PySem PySem.Spec PySem.Builtin PySem.Builtin.Str
end PyProof.Rows
namespace L2
open PySem PySem.Spec PyProof.Rows QL
theorem s_:∀(xs:List V) (us:LC),xs.length=us.length->(∀(j:Nat) (x:V) (u:Value),xs[j]?=some x->us[j]?=some u->bH x u)->bx xs us
 | [],[],_,_=>.nil
 |x::xs,u::us,hl,h=>.cons (h 0 x u rfl rfl) (s_ xs us (by simpa using hl) λj y v e1 e2=>h (j+1) y v (by simpa using e1) (by simpa using e2))
section
variable {X:Cx}
def xv:List V->Hp->VK->Prop:=λxs H Q=>∃z,xs=[.str z]/\z.length<=sizeLine/\∀l,H l=none->Q (.ref l) (aE H l (.lst (z.cps.toList.map λc=>V.str ⟨#[c]⟩)))
theorem wH(hc:X.calm=true):d0 X (.type "list") xv:=by
 intro pins s σ H xs us Q I r h;obtain⟨z,rfl,i,q⟩:=h;obtain⟨u,rfl,t,rfl⟩:=mw r;refine PySem.call_list_str (hn:=i) (I.ok.hd hc) z t λh' k b w n o a=>?_;have l:bx (z.cps.toList.map λc=>V.str ⟨#[c]⟩) b.toList:=by
  refine s_ _ _ (by rw[KD];simp[a.1]) λj x u g v=>?_;obtain⟨c,tk2,d,rfl⟩:=a.2 j u (by simpa using v);rw[KG]at g;have p:z.cps.toList[j]?=some c:=by simpa using d
  rw[p]at g;cases g;exact⟨_,rfl⟩
 have m:(z.cps.toList.map λc=>V.str ⟨#[c]⟩).length<=sizeLine:=by
  rw[KD];have e:z.cps.toList.length=z.length:=by show z.cps.toList.length=z.cps.size;simp
  rw[e];exact i
 exact⟨.ref s.heap.objs.size,aE H s.heap.objs.size (.lst (z.cps.toList.map λc=>V.str ⟨#[c]⟩)),I.laid (t':=k) n (K4 _) ⟨m,b.toList,w,l,by simpa using o⟩,rfl,q _ (I.hok.fresh (K4 _))⟩
end
section
variable {X:Cx}{pins:Lz}{σ:St}{H:Hp}{s:LB}{a:Addr}{kvs:List (cL×V)}{k:cL}{u r:Value}{d:V}{A:LJ}{E:Lx}
theorem Cv{Q:Lx}(I:Inv X pins σ H s)(e:H a=some (.dK kvs))(ry:bH (kV k) u)(rd:bH d r)(hl:kvs.length<sizeLine)
  (h1:∀v w' s',dL kvs k=some v->Inv X pins σ H s'->bH v w'->Q w' s') (h2:dL kvs k=none->∀s',Inv X pins σ (aE H a (.dK (dE kvs k d))) s'->Q r s') :
  wpAny (model X.prog X.w) A (call (.builtin "dict.setdefault") [.ref a,u,r]) Q E s:=by
 obtain⟨z,j,vs,c,l⟩:=qY I.hok e;have m:vs.length<=sizeLine:=by rw[<- c.length];exact z
 have i:(dE kvs k d).length<=sizeLine:=by have:=gc kvs k d;omega
 refine call_meetsIn PySem.F.slot_dict_setdefault l.typeIs PySem.F.entry_dict_setdefault (PySem.F.args_dict_setdefault_3 _ _ _) (kt_meets_setdefault (b5 X.prog X.w) a (my ry) j r) ⟨vs,l,m,λv n=>?_,λp y g o=>?_⟩
 ·have q:=c.val k
  rw[n]at q;cases b:dL kvs k with
  |none=>rw[b]at q;exact False.elim q
  |some v0=>rw[b]at q;exact h1 v0 v _ b (I.tok _) q
 ·have q:=c.val k
  rw[p]at q;have b:dL kvs k=none:=by
   cases b:dL kvs k with
   |none=>rfl
   |some v0=>rw[b]at q;exact False.elim q
  have x:∃q,y.get? a=some q:=let ⟨q,_,_,hq,_⟩:=g;⟨q,hq⟩
  exact h2 b _ (m8 I (by rw[e];exact True.intro) o x (vL i j (c.put k rd) g))
end
def vi(td ty tx:TE):TE:=λσ H Q=>td σ H λx H1=>∃a,x=.ref a/\Hc H1 a/\ty σ H1 λy H2=>tx σ H2 λz H3=>∃kvs k,H3 a=some (.dK kvs)/\y=kV k/\kvs.length<sizeLine /\
 (∀v,dL kvs k=some v->Q v H3)/\(dL kvs k=none->Q z (aE H3 a (.dK (dE kvs k z))))
section
variable {X:Cx}{o e f:Expr}{apos cpos:Pos}{td ty tx:TE}
theorem oo(ho:PE X o td)(he:PE X e ty)(hf:PE X f tx)(m:M2 X o "setdefault" apos e f cpos):PE X (.Call (.Attribute o "setdefault" apos) [e,f] [] cpos) (vi td ty tx):=by
 intro b s σ H Q I h;refine wpAny_Call_method m.base m.few m.line PySem.F.plainAttrs_dict PySem.F.slot_dict_setdefault PySem.F.type_dict_setdefault (cz (ho b s σ H _ I h) λu r ⟨x,H1,j,B,a,T,d,G⟩=>?_);subst T;obtain rfl:u=Value.ref a:=B;obtain⟨n,l,_⟩:=vQ j d;refine⟨n,l,?_⟩;rw[m.trees];refine Calls.callWith_builtin rfl (Calls.evalArgs_plain (Calls.spliced_cons (cz (he b r σ H1 _ j G) λiv q ⟨y,H2,Y,w,D⟩=>
  Calls.spliced_cons (cz (hf b q σ H2 _ Y D) λfv s3 ⟨z,Z,U,i,kvs,k,M,S,c,R,O⟩=>Calls.spliced_nil ?_))))
 subst S;exact Cv U M w i c (λv w' p J g C=>⟨v,Z,g,C,R v J⟩) λL p g=>⟨z,_,g,i,O L⟩
end
theorem Ee(h:(b5 P w).is k u=true):bH (kV k) u:=by
 rcases cG (show oK k u=true from h) with⟨i,t,rfl,rfl⟩ | ⟨x,t,rfl,rfl⟩<;>exact⟨_,rfl⟩
section
variable {X:Cx}
def v7:List V->Hp->VK->Prop:=λxs H Q=>∃a kvs,xs=[.ref a]/\H a=some (.dK kvs)/\∀l,H l=none->Q (.ref l) (aE H l (.lst (kvs.map λkv=>kV kv.1)))
theorem wZ(hc:X.calm=true):d0 X (.type "list") v7:=by
 intro pins s σ H xs us Q I r h;obtain⟨a,g,rfl,e,q⟩:=h;obtain⟨u,rfl,o⟩:=mw r;obtain rfl:u=Value.ref a:=o;obtain⟨z,hd,vs,d,J⟩:=qY I.hok e;obtain⟨ep,L⟩:=J.dictAt;have p:vs.length<=sizeLine:=by rw[<- d.length];exact z
 refine PySem.W.kdl_call (PySem.W.kdl_dict hd) (I.ok.hd hc) L p λh' n c M B D b=>?_;have v:bx (g.map λi=>kV i.1) c.toList:=by
  refine s_ _ _ (by rw[KD];simp[b.1,d.length]) λj x u m G=>?_;obtain⟨k,w,l,C⟩:=b.2 j u (by simpa using G);have y:(g.map λi=>kV i.1)=(vs.map (·.1)).map kV:=by rw[<- d.keys,KS];rfl
  rw[y,KG,KG,l]at m;cases m;exact Ee C
 exact⟨.ref s.heap.objs.size,aE H s.heap.objs.size (.lst (g.map λi=>kV i.1)),I.laid (t':=n) B (K4 _) ⟨by rw[KD];exact z,c.toList,M,v,by simpa using D⟩,rfl,q _ (I.hok.fresh (K4 _))⟩
end
section
variable {K:Type}[DecidableEq K]
def dZ(σ:List K)(v:K):List K:=if v∈σ then σ else σ++[v]
def met(l:List K):List K:=l.foldl dZ []
theorem vw(σ:List K)(v k:K):decide (k∈dZ σ v)=(decide (k∈σ)||decide (k=v)):=by
 unfold dZ
 by_cases h:v∈σ
 ·rw[q07 h]
  by_cases e:k=v
  ·subst e;simp[h]
  ·simp[e]
 ·rw[q06 h]
  simp[KR]
theorem mx(σ:List K)(v:K):(dZ σ v).length=if decide (v∈σ) then σ.length else σ.length+1:=by
 unfold dZ
 by_cases h:v∈σ<;>simp[h]
theorem uI(l:List K)(v:K):met (l++[v])=dZ (met l) v:=by unfold met;rw[List.foldl_append];rfl
theorem xM:∀(l σ:List K),(l.foldl dZ σ).length<=σ.length+l.length
 | [],σ=>K4 _
 |v::l,σ=>by
  have h:=xM l (dZ σ v);have e:=mx σ v;rw[List.foldl_cons,KP]
  split at e<;>omega
theorem Ct(n:Nat)(l:List K)(h:l.length=n):(met l).length<=n:=by
 have:=xM l [];rw[<- h];unfold met;simpa using this
end
section
variable {prog:LH}{w:LK}{K:Type}[DecidableEq K]{knd:KeyKind prog w K}{A:LJ}{R:Result->Shared->Prop}{I:Addr}{fp wr:LD}{G:Array GenState->Array GenState->Prop}{n:Nat}{P:Nat->Value->Prop}{St:Nat->Shared->Prop}
theorem CW(W:WalksS prog w A.in1 I fp wr G n P St)(S:Addr)(hSf:S∉fp)(l:List K)(hl:l.length=n)
  (hval:∀i v,P i v->∃k,l[i]?=some k/\knd.is k v=true/\v.scannable=true) (hb:n+1<scanBound) :
  ∀(k i:Nat) (s:LB),n-i=k->i<=n->St i s ->
   s.heap.SetOf knd S (λk'=>decide (k'∈met (l.take i))) (met (l.take i)).length ->
   (∀s',Moved (S::wr) G s s'->s'.heap.SetOf knd S (λk'=>decide (k'∈met l)) (met l).length->R (.ok (.ret .none)) s') ->
   codeAny b⁻¹ A (.builtin "set.update.loop" ⟨[.ref S,.ref I],[]⟩) R s:=by
 have y:S∉wr:=λh=>hSf (W.sub _ h);have a:∀b∈wr,b∈S::wr:=λb hb=>KW _ hb;intro k
 induction k with
 |zero=>
  intro i s hk hi c B U;have L:i=n:=by omega
  subst L;rw[<- hl,Lf]at B;refine codeAny_builtin F.entry_set_update_loop ?_;rw[Around.under_plainId F.plain_set_update_loop _];show wpAny _ A.in1 (pyNext (.ref I) >>= _) _ _ s;refine q04 (W.done s _ _ c λs' q=>?_);show wpAny _ A.in1 (ret Value.none) _ _ s';refine q05 (U s' (q.mono a) ?_);obtain⟨o,Y,Z,t,J,ci⟩:=B;exact⟨o,Y,Z,t,q.heap S _ y J,ci⟩
 |succ k ih=>
  intro i s hk hi c B U;have r:i<n:=by omega
  refine codeAny_builtin F.entry_set_update_loop ?_;rw[Around.under_plainId F.plain_set_update_loop _];show wpAny _ A.in1 (pyNext (.ref I) >>= _) _ _ s;refine q04 (W.item i s _ _ r c λv s' hP j q=>?_);obtain⟨g,u,x,D⟩:=hval i v hP;have T:s'.heap.SetOf knd S (λk'=>decide (k'∈met (l.take i))) (met (l.take i)).length:=by
   obtain⟨o,Y,Z,tb,J,ci⟩:=B;exact⟨o,Y,Z,tb,q.heap S _ y J,ci⟩
  show wpAny _ A.in1 (holding [v] (setAdd S v) >>= _) _ _ s';refine q04 (q0Y ?_);unfold setAdd;refine q0Y ?_;refine q04 (knd.pyHash (k:=g) x ?_);have d:(met (l.take i)).length+1<scanBound:=by have:=Ct i (l.take i) (by rw[Lg];omega);omega
  refine wpAny_setAddHashed_of (knd:=knd) (s:={s' with toks:=s'.toks+1}) x D T d λh' m O=>?_;have ht:l.take (i+1)=l.take i++[g]:=by rw[q0E,u];rfl
  have M:h'.SetOf knd S (λk'=>decide (k'∈met (l.take (i+1)))) (met (l.take (i+1))).length:=
   SetOf_congr O (λk'=>by rw[ht,uI,vw]) (by rw[ht,uI,mx])
  refine q05 ⟨plainId_quiet F.plain_set_update_loop _,ih (i+1) _ ⋯ r (W.frame _ s' _ _ j (Nat.le_succ _) λb hb o e=>?_) M λC p z=>?_⟩
  ·rw[m.2 b (λh:b=S=>hSf (by rw[<- h];exact hb))];exact e
  ·refine U C (Moved.trans W.gtrans ((q.mono a).then_heap (Nat.le_succ _) λb o hb e=>?_) p) z
   rw[m.2 b (λh:b=S=>hb (by rw[h];exact q0B))];exact e
end
def cT(z:Str):List Str:=z.cps.toList.map λc=>(⟨#[c]⟩:Str)
section
variable {prog:LH}{w:LK}{A:LJ}{E:Lx}{s:LB}
def Cj(s:LB)(led:Bool):Shared:={s with heap:=s.heap.push {cls:=.type "set",dict:=none,data:=.set #[] 0 (.fresh 0 0 led)} }
set_option maxHeartbeats 3200000 in
theorem sQ{v:Value}{R:Heap->Nat->Prop}{Q:Lx}
  (hi:∀led,(Cj s led).TypeIs (.ref s.heap.objs.size) "set"->codeAny b⁻¹ A.in1 (.call (.builtin "set.__init__") {pos:=[.ref s.heap.objs.size,v]})
   (wants (λr s₂=>r=.none/\∃h' tk,s₂={s with heap:=h',toks:=tk}/\R h' tk) E) (Cj s led))
  (h:∀(h':Heap) (tk:Nat),R h' tk->Q (.ref s.heap.objs.size) {s with heap:=h',toks:=tk}) :
  wpAny b⁻¹ A (call (.type "set") [v]) Q E s:=by
 obtain⟨c,tl,hmro⟩:=PySem.F.called_set.mro;have hmade:=PySem.F.called_set.made;have hsub:=PySem.F.called_set.sub;refine wpAny_call (codeAny_of_tree ?_);show wpAny _ _ (callAny (.type "set") _) _ _ _;refine q05 ⟨Code.quiet_builtin _ (by decide +kernel),codeAny_builtin PySem.F.entry_type_call ?_⟩;rw[Around.under_plain (weight_type_call_type "set" [v] []) rfl];have h1:=PySem.F.called_set.notType;have h2:=PySem.F.called_set.canCreate;have hct:=PySem.F.typeCall_set_1 v
 repeat (any_goals (first | with_reducible assumption | with_reducible refine q05 ?_ | with_reducible refine q04 ?_ | with_reducible refine q0Y ?_ | with_reducible refine wpAny_of_eq (by assumption) ?_ | with_reducible refine wpAny_isInstance (by assumption) (by assumption) ?_ | with_reducible refine wpAny_specialOf (by assumption) (by assumption) ?_ | with_reducible refine wpAny_call ?_ | ((with_reducible apply wpAny_ite_false);focus (rfl;done)) | wp_delta))
 refine codeAny_mono (code_set_new_1 v (E:=E) (Q₁:=λb d=>∃led:Bool,b=.ref s.heap.objs.size/\d=Cj s led) λled=>⟨led,rfl,rfl⟩) λr d hr=>?_;cases r with
 |error e=>exact hr
 |ok fl=>
  cases fl with
  |ret b=>
   obtain⟨led,rfl,rfl⟩:=hr;have i:(Cj s led).TypeIs (.ref s.heap.objs.size) "set":=⟨_,KJ _ rfl,rfl⟩;have hli:=PySem.F.called_set.init.lookup;have hbi:=PySem.F.called_set.init.bind (.ref s.heap.objs.size)
   repeat (any_goals (first | with_reducible assumption | with_reducible refine q05 ?_ | with_reducible refine q04 ?_ | with_reducible refine q0Y ?_ | with_reducible refine wpAny_of_eq (by assumption) ?_ | with_reducible refine wpAny_isInstance (by assumption) (by assumption) ?_ | with_reducible refine wpAny_specialOf (by assumption) (by assumption) ?_ | with_reducible refine wpAny_call ?_ | ((with_reducible apply wpAny_ite_false);focus (rfl;done)) | wp_delta))
   refine codeAny_mono (hi led i) λg s₂ a=>?_;cases g with
   |error e=>exact a
   |ok fl₂=>
    cases fl₂ with
    |ret r=>
     obtain⟨rfl,h',tk,rfl,j⟩:=a
     repeat (any_goals (first | with_reducible assumption | with_reducible refine q05 ?_ | with_reducible refine q04 ?_ | with_reducible refine q0Y ?_ | with_reducible refine wpAny_of_eq (by assumption) ?_ | with_reducible refine wpAny_isInstance (by assumption) (by assumption) ?_ | with_reducible refine wpAny_specialOf (by assumption) (by assumption) ?_ | with_reducible refine wpAny_call ?_ | ((with_reducible apply wpAny_ite_false);focus (rfl;done)) | wp_delta))
     exact h _ _ j
    |_=>exact a.elim
  |_=>exact hr.elim
theorem pQ{x:Str}{t:Tok}{Q:Lx}(hh:A.handled=none)(hb:x.cps.size+1<scanBound)
  (h:∀(h':Heap) (tk:Nat),h'.SetOf (strKind prog w) s.heap.objs.size (λk'=>decide (k'∈met (cT x))) (met (cT x)).length ->
   (∀b o,s.heap.get? b=some o->h'.get? b=some o)->Q (.ref s.heap.objs.size) {s with heap:=h',toks:=tk}) :
  wpAny b⁻¹ A (call (.type "set") [.str x t]) Q E s:=by
 refine sQ (R:=λh' _=>h'.SetOf (strKind prog w) s.heap.objs.size (λk'=>decide (k'∈met (cT x))) (met (cT x)).length/\∀b o,s.heap.get? b=some o->h'.get? b=some o)
  (λa q=>?_) λh' tk hr=>h h' tk hr.1 hr.2
 refine codeAny_call_builtin PySem.F.called_set.init.plain PySem.F.entry_set_init (check_set_init_1 q ?_);unfold Cj at q ⊢;have B:(s.heap.push {cls:=.type "set",dict:=none,data:=.set #[] 0 (.fresh 0 0 a)}).get? s.heap.objs.size=some {cls:=.type "set",dict:=none,data:=.set #[] 0 (.fresh 0 0 a)}:=KJ _ rfl;have hsls:=PySem.F.sub_str_set;have hslf:=PySem.F.sub_str_frozenset;have hne:(Value.type "str" == Value.type "dict")=false:=by decide
 unfold Builtin.«set.__init__» noKeywords Builtin.Frozenset.updateFrom;generalize n:pyIter=PI
 wp_walk
 subst n;refine wpAny_pyIter_str λo St W k=>?_;refine q04 (wpAny_runValue ?_);have l:s.heap.objs.size∉[(s.heap.push {cls:=.type "set",dict:=none,data:=.set #[] 0 (.fresh 0 0 a)}).objs.size]:=by
  rw[Heap.size_push];simp only[KF]
  exact K0 (Lb _)
 refine CW (knd:=strKind prog w) ((W _ (by simp[hh])).toS) s.heap.objs.size l (cT x) (by simp[cT])
  (λi v ⟨c,u,z,p⟩=>⟨⟨#[c]⟩,by unfold cT;rw[KG,q0G,z];rfl,by rw[p];exact strKind_is _ _ _ _,by rw[p];rfl⟩) hb (x.cps.size-0) 0 _ ⋯ (K5 _) k ?hS0 ?hR
 case hS0=>
  exact SetOf_congr ((setObjOf_fresh (knd:=strKind prog w) a).setOf (KC _ B) (by unfold scanBound;omega)) (λ_=>rfl) rfl
 case hR=>
  intro r d m;obtain⟨h',C,J,g,j⟩:=r;have G:C=s.gens:=d.gens;have I:J=s.drawn:=d.drawn;have D:j=s.os:=d.os;subst G;subst I;subst D
  show wpAny _ _ _ _ _ _;refine q05 ?_;show wpAny _ _ (ret Value.none) _ _ _;refine q05 ⟨rfl,h',g,rfl,m,λb y e=>?_⟩;have hb:=K7 e;refine d.heap b y ?_ (KC _ (KC _ e));simp only[KU,List.not_mem_nil,or_false,not_or,Heap.size_push];exact⟨K0 hb,K0 (Nat.lt_succ_of_lt hb)⟩
end
def su(t:TE):TE:=λσ H Q=>t σ H λx H1=>∃z,x=.str z/\z.cps.size+1<scanBound/\Q (.int (met (cT z)).length) H1
section
variable {X:Cx}{e:Expr}{t:TE}{p p2 pos pos2:Pos}
theorem yW(hc:X.calm=true)(ha:PE X e t)(g1:Gl X "len")(m1:X.mg "len"=none)(g2:Gl X "set")(m2:X.mg "set"=none)
  (he1:autoParam (starEach [.Call (.Name "set" p2) [e] [] pos2] X.env=[(false,eval (.Call (.Name "set" p2) [e] [] pos2) X.env)]) zz0._auto_1)
  (he2:autoParam (starEach [e] X.env=[(false,eval e X.env)]) zz0._auto_1) :
  PE X (.Call (.Name "len" p) [.Call (.Name "set" p2) [e] [] pos2] [] pos) (su t):=by
 intro a s σ H Q I h;have k:bootBuiltins "len"=some (.builtin "len"):=by decide +kernel
 have i:bootBuiltins "set"=some (.type "set"):=by decide +kernel
 refine wpAny_Call_Name_kw (eV I g1 m1 k ?_);refine PyProof.Rows.callWith_builtin1 ?_ he1 rfl;rw[he1];show wpAny _ _ (spliced [(false,eval (.Call (.Name "set" p2) [e] [] pos2) X.env)]) _ _ _;refine Calls.spliced_cons ?_;refine wpAny_Call_Name_kw (eV (I.tok _) g2 m2 i ?_);refine PyProof.Rows.callWith_type1 ?_ he2 rfl;rw[he2];show wpAny _ _ (spliced [(false,eval e X.env)]) _ _ _;refine Calls.spliced_cons (cz (ha a _ σ H _ (I.tok _) h) λu s1 ⟨x,H1,v,g,z,r,c,q⟩=>Calls.spliced_nil ?_);subst r;obtain⟨tk,rfl⟩:=g;refine pQ (I.ok.hd hc) c λh' tk' n l=>Calls.spliced_nil ?_;obtain⟨o,j,b,es,ep,tb,hd,_,_,d,m⟩:=n.objOf;have hle:=Ct z.cps.size (cT z) (by simp[cT]);have hb:z.cps.size<4096:=by unfold scanBound at c;omega
 refine call_len_set j b hd m (by rw[d];have:((4096:Nat):Int)<2^63:=(by decide);omega) ?_;rw[d];exact⟨.int _,H1,(v.kept (t':=_) l),⟨_,rfl⟩,q⟩
end
abbrev NT:=List (Str×Addr×List Nat)
def vf(t:NT):List (cL×V):=t.map λx=>(Sum.inr x.1,V.ref x.2.1)
def vJ(ns:LA):List V:=ns.map fun(n:Nat)=>V.int (n:Int)
structure dm(H:Hp)(p:Addr)(t:NT):Prop where
 dict:H p=some (.dK (vf t))
 list:∀x∈t,H x.2.1=some (.lst (vJ x.2.2))
 apart:(t.map (·.2.1)).Nodup
theorem dm.grow{H':Hp}{t:NT}(N:dm H p t)(k:∀a o,H a=some o->H' a=some o):dm H' p t:=⟨k _ _ N.dict,λx hx=>k _ _ (N.list x hx),N.apart⟩
theorem A8(z:Str):∀t:NT,dL (vf t) (.inr z)=(t.find? λx=>decide (x.1=z)).map λx=>V.ref x.2.1
 | []=>rfl
 |x::t=>by
  have ih:=A8 z t;unfold vf at ih ⊢;rw[K_,List.find?_cons]
  by_cases e:x.1=z
  ·rw[fK (by rw[e])];simp[e]
  ·rw[fP (λh=>e (Sum.inr.inj h)),ih];simp[e]
theorem dm.new{t:NT}(N:dm H p t)(hl:H l=none)(hz:dL (vf t) (.inr z)=none) :
  dm (aE (aE H l (.lst [])) p (.dK (dE (vf t) (.inr z) (.ref l)))) p (t++[(z,l,[])]):=by
 have d:p≠l:=λe=>by have:=N.dict;rw[e,hl]at this;exact nomatch this
 have c:∀x∈t,x.2.1≠l/\x.2.1≠p:=λx c=>by
  have q:=N.list x c
  constructor
  ·intro e;rw[e,hl]at q;exact nomatch q
  ·intro e;rw[e,N.dict]at q;exact nomatch q
 refine⟨?_,λx h=>?_,?_⟩
 ·rw[af,AQ _ hz];unfold vf;rw[KQ];rfl
 ·rcases KR.mp h with h | h
  ·rw[av (c x h).2,av (c x h).1];exact N.list x h
  ·rw[KF.mp h,av (Ne.symm d),af];rfl
 ·rw[KQ]
  refine List.nodup_append.mpr ⟨N.apart,by simp,λa i b g=>?_⟩;obtain⟨x,h1,rfl⟩:=Lm.mp i;rw[List.map_singleton]at g;rw[KF.mp g];exact(c x h1).1
theorem dm.put{t:NT}{i k:Nat}{x:Str×Addr×List Nat}(N:dm H p t)(hi:t[i]?=some x) :
  dm (aE H x.2.1 (.lst (vJ (x.2.2++[k])))) p (t.set i (x.1,x.2.1,x.2.2++[k])):=by
 have l:x∈t:=KH hi;have g:p≠x.2.1:=λe=>by have:=N.list x l;rw[<- e,N.dict]at this;exact nomatch this
 have a:i<t.length:=(KA.mp hi).1;have m:vf (t.set i (x.1,x.2.1,x.2.2++[k]))=vf t:=by
  unfold vf;apply List.ext_getElem?;intro j;rw[KG,KG,List.getElem?_set]
  by_cases e:i=j
  ·subst e;rw[q07 rfl,q07 a,hi];rfl
  ·rw[q06 e]
 have n:(t.set i (x.1,x.2.1,x.2.2++[k])).map (·.2.1)=t.map (·.2.1):=by
  apply List.ext_getElem?;intro j;rw[KG,KG,List.getElem?_set]
  by_cases e:i=j
  ·subst e;rw[q07 rfl,q07 a,hi];rfl
  ·rw[q06 e]
 refine⟨by rw[av g,m];exact N.dict,λy d=>?_,by rw[n];exact N.apart⟩;obtain⟨j,b⟩:=List.mem_iff_getElem?.mp d;rw[List.getElem?_set]at b
 by_cases e:i=j
 ·rw[q07 e,q07 a]at b
  cases b;exact af
 ·rw[q06 e]at b
  have c:y.2.1≠x.2.1:=by
   intro q;have h1:(t.map (·.2.1))[i]?=some x.2.1:=by rw[KG,hi];rfl
   have h2:(t.map (·.2.1))[j]?=some x.2.1:=by rw[KG,b];simp[q]
   exact e ((List.getElem?_inj (KA.mp h1).1 N.apart).mp (h1.trans h2.symm))
  rw[av c];exact N.list y (KH b)
def jh(t:NT):List (Str×List Nat):=t.map λx=>(x.1,x.2.2)
def cB(m:List (Str×List Nat))(z:Str):List (Str×List Nat):=if z∈m.map (·.1) then m else m++[(z,[])]
theorem Bw{t:NT}{v:V}(h:dL (vf t) (.inr z)=some v):∃(i:Nat) (x:Str×Addr×List Nat),t[i]?=some x/\x.1=z/\v=.ref x.2.1:=by
 rw[A8]at h;cases a:t.find? (λx=>decide (x.1=z)) with
 |none=>rw[a]at h;exact nomatch h
 |some x=>
  rw[a]at h;have c:V.ref x.2.1=v:=q0S h;obtain⟨i,d⟩:=List.mem_iff_getElem?.mp (List.mem_of_find?_eq_some a);have b:=List.find?_some a;exact⟨i,x,d,of_decide_eq_true b,c.symm⟩
theorem xF(t:NT):(jh t).map (·.1)=t.map (·.1):=by unfold jh;rw[KS];rfl
theorem Fj{t:NT}(h:dL (vf t) (.inr z)=none):¬ z∈(jh t).map (·.1):=by
 intro m;rw[xF]at m;obtain⟨x,a,e⟩:=Lm.mp m;refine A0 h (Lm.mpr ⟨(.inr x.1,.ref x.2.1),Lm.mpr ⟨x,a,rfl⟩,?_⟩);show(Sum.inr x.1:cL)=Sum.inr z;rw[e]
theorem dm.setdef{t:NT}{z:Str}{Q:VK}(N:dm H p t)(hl:H l=none)(hn:t.length<sizeLine)
  (h:∀(H':Hp) (t':NT) (i:Nat) (x:Str×Addr×List Nat),dm H' p t'->t'[i]?=some x->x.1=z->jh t'=cB (jh t) z->(∀y∈t',y∈t\/y.2.1=l)->(∀a o,a≠p->H a=some o->H' a=some o)->Q (.ref x.2.1) H') :
  ∃kvs k,aE H l (.lst []) p=some (.dK kvs)/\V.str z=kV k/\kvs.length<sizeLine/\(∀v,dL kvs k=some v->Q v (aE H l (.lst []))) /\
   (dL kvs k=none->Q (.ref l) (aE (aE H l (.lst [])) p (.dK (dE kvs k (.ref l))))):=by
 have hpl:p≠l:=λe=>by have:=N.dict;rw[e,hl]at this;exact nomatch this
 have b:∀a o,H a=some o->aE H l (.lst []) a=some o:=λa o e=>by
  rw[av (λq=>by rw[q,hl]at e;exact nomatch e)];exact e
 refine⟨vf t,.inr z,b _ _ N.dict,rfl,by unfold vf;rw[KD];exact hn,λv m=>?_,λd=>?_⟩
 ·obtain⟨i,x,j,g,rfl⟩:=Bw m
  refine h _ t i x (N.grow b) j g ?_ (λy c=>.inl c) λa o _ e=>b a o e;have n:z∈(jh t).map (·.1):=by rw[xF];exact Lm.mpr ⟨x,KH j,g⟩
  unfold cB;rw[q07 n]
 ·refine h _ (t++[(z,l,[])]) t.length (z,l,[]) (N.new hl d) (by simp) rfl ?_ (λy c=>(KR.mp c).imp id λq=>by rw[KF.mp q]) λa o r e=>by rw[av r];exact b a o e
  unfold cB;rw[q06 (Fj d)];unfold jh;rw[KQ];rfl
theorem CD{t:NT}{x:Str×Addr×List Nat}(k:Nat):jh (t.set i (x.1,x.2.1,x.2.2++[k]))=(jh t).set i (x.1,x.2.2++[k]):=by
 unfold jh;rw[List.map_set]
theorem ku{m:List (Str×List Nat)}(h:(m.map (·.1)).Nodup):((cB m z).map (·.1)).Nodup:=by
 unfold cB
 by_cases e:z∈m.map (·.1)
 ·rw[q07 e];exact h
 ·rw[q06 e,KQ]
  refine List.nodup_append.mpr ⟨h,by simp,λa d b c=>?_⟩;rw[List.map_singleton]at c;rw[KF.mp c];exact λq=>e ((show a=z from q)▸d)
section
variable {X:Cx}{K:Ly}{tg:Expr}
theorem DX{a:Expr}{ta:TA}{p pos:Pos}(hK:X.K=K)(hg:Gl X "reversed")(hm:X.mg "reversed"=none)(ha:PA X [a] ta)(hs:autoParam (starEach [a] X.env=[(false,eval a X.env)]) zz0._auto_1):PI X tg (.Call (.Name "reversed" p) [a] [] pos) (Df K ta):=hK▸AO hg hm ha hs
end
theorem qK{X:Cx}{e:Expr}{t:TA}{x:Str}{j:Nat}{p apos cpos:Pos}(ha:PA X [e] t)(hline:(apos.endLine==cpos.line)=true)(hs:starEach [e] X.env=[(false,eval e X.env)]) :
  PE X (.Call (.Attribute (.Constant (.str x) j p) "join" apos) [e] [] cpos) (F3 X.K "str" (uH X.K) (tC (.str x)) t):=
 cJ PySem.F.plainAttrs_str PySem.F.slot_str_join PySem.F.type_str_join DQ nV ha rfl (by rw[hs];rfl) hline hs rfl
theorem Fg{X:Cx}{K:Ly}{e:Expr}{t:TA}{x:Str}{j:Nat}{p apos cpos:Pos}(hK:X.K=K)(ha:PA X [e] t)(hline:(apos.endLine==cpos.line)=true)(hs:starEach [e] X.env=[(false,eval e X.env)]) :
  PE X (.Call (.Attribute (.Constant (.str x) j p) "join" apos) [e] [] cpos) (F3 K "str" (uH K) (tC (.str x)) t):=hK▸qK ha hline hs
end L2
namespace QL
open PySem PySem.Spec PyProof.Rows
theorem EI:bootBuiltins "max"=some (.builtin "max"):=by decide +kernel
end QL
namespace L2
open PySem PySem.Spec PyProof.Rows QL
section
variable {K:Ly}{g:TG}{ti:TT}{te:TE}{σ:St}{H:Hp}{Q:List V->Hp->Prop}{α:Type}
theorem ng{as:List α}{f:α->Option V}{i:Nat}{x:α}(hx:as[i]?=some x):(as.take (i+1)).filterMap f=(as.take i).filterMap f++(f x).toList:=by
 rw[q0E,hx,List.filterMap_append];show _++List.filterMap f [x]=_;cases h:f x<;>simp[h]
theorem BR{as:List α}{f:α->Option V}(i:Nat):((as.take i).filterMap f).length<=as.length:=K' (List.length_filterMap_le _ _) (by rw[Lg];omega)
theorem i_{as:List α}(f:α->V):as.filterMap (λx=>some (f x))=as.map f:=by induction as with | nil=>rfl | cons x xs ih=>simp
theorem dI{as:List α}{emb:α->V}{f:α->Option V}(S:St->Prop)(h0:S σ)(hl:∀H',aD H H'->aN K H' a (as.map emb))(hn:as.length<=1000000)
  (hs:∀(i:Nat) x,as[i]?=some x->∀σ H' (N1:V->St->Hp->Prop) (N0:St->Hp->Prop),S σ->aD H H'->(∀v σ2 H2,f x=some v->aD H H2->S σ2->N1 v σ2 H2)->(∀σ2 H2,f x=none->aD H H2->S σ2->N0 σ2 H2) ->
   g (emb x) σ H' λσ2 H3=>ti σ2 H3 λb H4=>if b=true then te σ2 H4 λv H5=>N1 v σ2 H5 else N0 σ2 H4)
  (he:∀H',aD H H'->Q (as.filterMap f) H'):fJ (BT K a) g ti te σ H Q:=by
 refine eC (xs:=as.map emb) (λi c σ H'=>aD H H'/\c=(as.take i).filterMap f/\i<=as.length/\S σ) ⟨λ_ _ e=>e,rfl,K5 _,h0⟩ ?_ ?_ ?_ ?_ ?_
 ·rintro i c σ H' ⟨_,rfl,_⟩
  have:=BR (as:=as) (f:=f) i;exact aR ⋯
 ·rintro i c σ H' ⟨_,_,h,_⟩
  rw[KD];exact h
 ·rintro i c σ H' ⟨sm,_⟩
  exact hl _ sm
 ·rintro i x c σ H' j ⟨sm,rfl,hi,l⟩
  have d:i<as.length:=by have:=(KA.mp j).1;rwa [KD]at this
  rw[KG,Kz d]at j;cases j;have k:as[i]?=some as[i]:=Kz d;refine hs i as[i] k σ H' (λv σ2 H5=>_) (λσ2 H4=>_) l sm (λv σ2 H2 hf s2 hS2=>⟨s2,?_,d,hS2⟩) (λσ2 H2 hf s2 hS2=>⟨s2,?_,d,hS2⟩)
  ·rw[ng k,hf];rfl
  ·rw[ng k,hf];simp
 ·rintro c σ H' ⟨sm,rfl,_⟩
  have e:(as.take (as.map emb).length).filterMap f=as.filterMap f:=by rw[KD,Lf]
  rw[e];exact he _ sm
theorem wV{as:List α}{emb:α->V}{f:Nat->α->Option V}(S:St->Prop)(h0:S σ)(hl:∀H',aD H H'->aN K H' a (as.map emb))(hn:as.length<=1000000)
  (hs:∀(i:Nat) x,as[i]?=some x->∀σ H' T (N1:V->St->Hp->Prop) (N0:St->Hp->Prop),S σ->aD H H'->H' T=none->(∀v σ2 H2,f i x=some v->aD H H2->S σ2->N1 v σ2 H2)->(∀σ2 H2,f i x=none->aD H H2->S σ2->N0 σ2 H2) ->
   g (.ref T) σ (aE H' T (.tup [.int (i:Int),emb x])) λσ2 H3=>ti σ2 H3 λb H4=>if b=true then te σ2 H4 λv H5=>N1 v σ2 H5 else N0 σ2 H4)
  (he:∀H',aD H H'->Q (as.zipIdx.filterMap λx=>f x.2 x.1) H'):fJ (Gv K a) g ti te σ H Q:=by
 have k:as.zipIdx.length=as.length:=List.length_zipIdx;refine i9 (J:=Gv K a) (n:=as.length) (λi c σ H'=>aD H H'/\c=(as.zipIdx.take i).filterMap (λx=>f x.2 x.1)/\i<=as.length/\S σ) ⟨λ_ _ e=>e,rfl,K5 _,h0⟩ ?_ ?_ ?_ ?_ ?_ ?_
 ·rintro i c σ H' ⟨_,rfl,_⟩
  have:=BR (as:=as.zipIdx) (f:=λx=>f x.2 x.1) i;exact aR ⋯
 ·rintro i c σ H' ⟨_,_,h,_⟩
  exact h
 ·rintro c σ H' ⟨sm,_⟩
  exact⟨_,hl _ sm,by rw[KD];exact K4 _⟩
 ·rintro i c σ H' d ⟨sm,_⟩
  exact⟨_,emb as[i],hl _ sm,by rw[KG,Kz d];rfl⟩
 ·rintro i x c σ H' H2 d ⟨sm,rfl,hi,p⟩ ⟨T,y,rfl,o,rfl,j⟩
  have l:as[i]?=some as[i]:=Kz d;have j:=j _ (hl _ sm);rw[KG,l]at j;cases j;have m:as.zipIdx[i]?=some (as[i],i):=by rw[List.getElem?_zipIdx,l];simp
  refine hs i as[i] l σ H' T (λv σ2 H5=>_) (λσ2 H4=>_) p sm o (λv σ2 H2 hf s2 hS2=>⟨s2,?_,d,hS2⟩) (λσ2 H2 hf s2 hS2=>⟨s2,?_,d,hS2⟩)
  ·rw[ng m];simp only[hf];rfl
  ·rw[ng m];simp[hf]
 ·rintro c σ H' ⟨sm,rfl,_⟩
  have e:(as.zipIdx.take as.length).filterMap (λx=>f x.2 x.1)=as.zipIdx.filterMap (λx=>f x.2 x.1):=by rw[<- k,Lf]
  rw[e];exact he _ sm
theorem lZ{n:Nat}{f:Nat->Option V}(S:St->Prop)(h0:S σ)(hn:n<=1000000)
  (hs:∀i,i<n->∀σ H' (N1:V->St->Hp->Prop) (N0:St->Hp->Prop),S σ->aD H H'->(∀v σ2 H2,f i=some v->aD H H2->S σ2->N1 v σ2 H2)->(∀σ2 H2,f i=none->aD H H2->S σ2->N0 σ2 H2) ->
   g (.int (0+(i:Int))) σ H' λσ2 H3=>ti σ2 H3 λb H4=>if b=true then te σ2 H4 λv H5=>N1 v σ2 H5 else N0 σ2 H4)
  (he:∀H',aD H H'->Q ((List.range n).filterMap f) H'):fJ (xV 0 n) g ti te σ H Q:=by
 refine gY (lo:=0) (n:=n) (λi a σ H'=>aD H H'/\a=(List.range i).filterMap f/\i<=n/\S σ) ⟨λ_ _ e=>e,rfl,K5 _,h0⟩ ?_ ?_ ?_ ?_
 ·rintro i a σ H' ⟨_,rfl,c,_⟩
  have:=List.length_filterMap_le f (List.range i);rw[q0J]at this;exact aR ⋯
 ·rintro i a σ H' ⟨_,_,h,_⟩
  exact h
 ·rintro i a σ H' c ⟨sm,rfl,_,d⟩
  refine hs i c σ H' (λv σ2 H5=>_) (λσ2 H4=>_) d sm (λv σ2 H2 hf s2 hS2=>⟨s2,?_,c,hS2⟩) (λσ2 H2 hf s2 hS2=>⟨s2,?_,c,hS2⟩)
  ·rw[q0M,List.filterMap_append];simp[hf]
  ·rw[q0M,List.filterMap_append];simp[hf]
 ·rintro a σ H' ⟨sm,rfl,_⟩
  exact he _ sm
end
end L2
namespace ThM
open PySem L2
def addNew(ks:LI)(z:Str):List Str:=if z∈ks then ks else ks++[z]
theorem mem_addNew{ks:LI}{y:Str}:y∈addNew ks z↔y∈ks\/y=z:=by
 unfold addNew
 split
 ·rename_i h
  exact⟨.inl,λq=>q.elim id λe=>e▸h⟩
 ·rw[KR,KF]
def trueD(zs:LI):List (cL×V):=zs.map λz=>(Sum.inr z,V.bl true)
theorem trueD_val(z:Str):∀zs:List Str,(dL (trueD zs) (.inr z)).isSome=decide (z∈zs)
 | []=>rfl
 |y::zs=>by
  have ih:=trueD_val z zs;unfold trueD at ih ⊢;rw[K_]
  by_cases e:y=z
  ·rw[fK (by rw[e])]
   simp[e]
  ·rw[fP (λq=>e (Sum.inr.inj q)),ih]
   have:¬ z=y:=λq=>e q.symm;simp[this]
theorem trueD_put(zs:LI)(z:Str):dE (trueD zs) (.inr z) (V.bl true)=trueD (addNew zs z):=by
 unfold dE;rw[gU,trueD_val];unfold addNew
 by_cases h:z∈zs
 ·rw[q09 h,q07 rfl,q07 h]
  unfold trueD;rw[KS];refine q0K λy _=>?_;show(if(Sum.inr y:cL)=Sum.inr z then _ else _)=_
  split<;>rfl
 ·rw[q08 h,q06 (by decide),q06 h]
  unfold trueD;rw[KQ];rfl
theorem trueD_len(zs:LI):(trueD zs).length=zs.length:=by unfold trueD;rw[KD]
section
variable {α:Type}(f:List α->List α)
def GW:Nat->List α->List α
 |0,s=>s
 |n+1,s=>f (GW n s)
variable {f}
end
abbrev NR:=Str×List Str
def DK(ks:LI)(r:NR):List Str:=if(∀z∈r.2,z∈ks) then addNew ks r.1 else ks
def AM(rs:List NR)(ks:LI):List Str:=rs.foldl DK ks
theorem nd_len{ks ms:LI}(hn:ks.Nodup)(h:∀z∈ks,z∈ms):ks.length<=ms.length:=by
 induction ks generalizing ms with
 |nil=>exact K5 _
 |cons k ks ih=>
  rw[q0d]at hn;have c:=h k q0B;have h1:=ih (ms:=ms.erase k) hn.2 λz b=>by
   have a:z≠k:=λe=>hn.1 (e▸b);exact(List.mem_erase_of_ne a).mpr (h z (KW _ b))
  have h2:=List.length_erase_of_mem c;have h3:=List.length_pos_of_mem c;rw[KP];omega
def Ep(rs:List NR):List Str:=GW (AM rs) rs.length []
end ThM
namespace ThM
open PySem L2
theorem kz{y:Str}:∀(zs ks:LI),y∈zs.foldl addNew ks↔y∈ks\/y∈zs
 | [],ks=>by simp
 |z::zs,ks=>by
  rw[List.foldl_cons,kz zs,mem_addNew,KU];exact⟨λh=>h.elim (λh=>h.elim .inl λe=>.inr (.inl e)) λh=>.inr (.inr h),λh=>h.elim (λh=>.inl (.inl h)) λh=>h.elim (λe=>.inl (.inr e)) .inr⟩
def Bz(ks:LI)(r:NR):List Str:=if r.1∈ks then r.2.foldl addNew ks else ks
def zH(rs:List NR)(ks:LI):List Str:=rs.foldl Bz ks
def FP(ks:LI)(r:NR):Prop:=r.1∈ks/\∀z∈r.2,z∈ks
noncomputable instance (ks:LI)(r:NR):Decidable (FP ks r):=by unfold FP;infer_instance
def EZ(st:Str)(rs:List NR):List Str:=GW (zH rs) rs.length [st]
def Ek(rs:List NR)(r:NR):Bool:=decide (∀z∈r.2,z∈Ep rs)
def GV(rs:List NR):List NR:=rs.filter (Ek rs)
def Hf(st:Str)(rs:List NR):List Str:=EZ st (GV rs)
def keep(st:Str)(rs:List NR)(r:NR):Bool:=decide (r.1∈Hf st rs)&&Ek rs r
end ThM
namespace L2
open PySem PySem.Spec PyProof.Rows
section
variable {X:Cx}{body:List Stmt}{h₀:ExceptHandler}{hs:List ExceptHandler}{tb:TS}{pos:Pos}
theorem mZ{ta:TE}{f:Str}{K:Ly}(hK:X.K=K)(he:PE X e ta)(hb:attributeBase e f X.env (eval e X.env)=eval e X.env):PE X (.Attribute e f pos) (DA K ta f):=hK▸cK he hb
end
section
variable {X:Cx}{es:LM}{t:TA}{te:TE}
end
end L2
namespace L2
open PySem PySem.Spec PyProof.Rows QL
section
variable {X:Cx}
theorem AW(h:uh x=true):Cy x x=true:=by cases x<;>simp_all [uh,Cy]
end
end L2
namespace L2
open PySem PySem.Spec PyProof.Rows
end L2
namespace L2
open PySem PySem.Spec PyProof.Rows QL
section
variable {X:Cx}
def tZ:V->List V->Hp->VK->Prop:=λx vs H Q=>∃l xs i k y,x=.ref l/\vs=[.int i,y]/\H l=some (.lst xs)/\i=((k:Nat):Int)/\k<=xs.length/\xs.length<sizeLine/\Q .non (aE H l (.lst (xs.take k++y::xs.drop k)))
theorem zT:GL X "list.insert" tZ:=by
 intro pins s σ H x vs v us Q I rx rv h;obtain⟨l,m,i,k,y,rfl,rfl,j,c,hk,p,q⟩:=h;cases rx;obtain⟨u1,u,rfl,d,o⟩:=rv.two;obtain⟨t,rfl⟩:=d;obtain⟨z,a,n,r,hl,e⟩:=I.lstM j;have g:k<2 ^ 62:=by
  have h1:m.length<sizeLine:=p;have h2:sizeLine<=2 ^ 62:=by decide +kernel
  omega
 have w:(2:Nat) ^ 62=4611686018427387904:=by decide
 have b:(2:Int) ^ 63=9223372036854775808:=by decide
 rw[w]at g;refine call_meets F.slot_list_insert ⟨_,e,rfl⟩ F.entry_list_insert (F.args_list_insert_3 _ _ _)
  (AutoSeq1.list_insert_list_int_val_1 l a.toArray n i t u (by rw[fitsIndex_both (by rw[b,c];omega) (by rw[b,c];omega)];decide) (by rw[KL];omega)) ⟨e,?_⟩
 refine⟨.non,_,I.lset (its':=a.take k++u::a.drop k) j e ?_ ?_ ?_,rfl,q⟩
 ·have B:¬ i<0:=by rw[c];omega
  have C:min i.toNat a.toArray.size=k:=by rw[c,KL];omega
  show(a.toArray.extract 0 (if i<0 then(i+(a.toArray.size:Int)).toNat else min i.toNat a.toArray.size)).push u++a.toArray.extract (if i<0 then(i+(a.toArray.size:Int)).toNat else min i.toNat a.toArray.size)=_;rw[q06 B,C];apply Array.ext';simp[List.extract_eq_drop_take,q0F]
 ·exact(r.take k).append (.cons o (r.drop k))
 ·rw[K3,KP,Lg,Lh]
  omega
end
def EY(H H':Hp):Prop:=∀b xs,H b=some (.tup xs)->H' b=some (.tup xs)
def wo(np:Nat->Nat):List Nat->List Dt
 | []=>[]
 |n::ns=>.tup (.int (n:Int)::(wo np ns).take (np n))::(wo np ns).drop (np n)
def G3(np:Nat->Nat):List Nat->Prop
 | []=>True
 |n::ns=>G3 np ns/\np n<=(wo np ns).length
theorem vn:∀{ns:List Int} {us:LC},bx (ns.map V.int) us->∃ps:List (Int×Tok),us.toArray=intItems ps.toArray/\ps.map (·.1)=ns
 | [],us,r=>⟨[],by have:=r.zero;subst this;simp[intItems],rfl⟩
 |n::ns,us,r=>by
  cases r with
  |cons h t=>
   obtain⟨tk,rfl⟩:=h;obtain⟨ps,e1,e2⟩:=vn t;refine⟨(n,tk)::ps,?_,by rw[K_,e2]⟩;have:=q0R Array.toList e1;unfold intItems at this ⊢;simp at this ⊢;exact this
section
variable {X:Cx}
theorem zd(hc:X.calm=true):d0 X (.builtin "sum") (λxs H Q=>∃(p:Addr) (ns:List Int),xs=[.ref p]/\aN X.K H p (ns.map V.int)/\Q (.int ns.sum) H):=by
 intro pins s σ H xs us Q I r h;obtain⟨p,ns,rfl,g,q⟩:=h;obtain⟨u,rfl,d⟩:=r.one;cases d;obtain⟨its,c,e,_⟩:=I.list g;obtain⟨a,l,k⟩:=vn c;refine sum_intListG (xs:=a.toArray) (I.ok.hd hc) (by rw[<- l];exact e.isList) λh' b t' i=>?_;have j:preSum (numAt a.toArray) a.toArray.size=ns.sum:=by
  rw[preSum_eq,q0F (by simp),<- k]
 rw[j];exact⟨.int _,H,I.kept (t':=b) i,⟨_,rfl⟩,q⟩
theorem Fv:bootBuiltins "sum"=some (.builtin "sum"):=by decide +kernel
end
end L2
namespace L2
open PySem PySem.Spec PyProof.Rows QL aL
theorem G0{P:Addr->Prop}:(∃p,V.ref a=V.ref p/\P p)=P a:=by simp
theorem Hk{a:Int}{P:Int->Prop}:(∃p,V.int a=V.int p/\P p)=P a:=by simp
theorem Hv{P:Bool->Prop}:(∃p,V.bl a=V.bl p/\P p)=P a:=by simp
theorem HE{P:Str->Prop}:(∃p,V.str a=V.str p/\P p)=P a:=by simp
theorem Hm{α:Type}{P:Addr->α->Prop}:(∃p,∃x,V.ref a=V.ref p/\P p x) = ∃x,P a x:=by simp
theorem HC{α:Type}{P:Addr->α->Prop}:(∃p,∃x,[V.ref a]=[V.ref p]/\P p x) = ∃x,P a x:=by simp
theorem G8{α:Type}{v:V}{P:Addr->α->V->Prop}:(∃p,∃x,∃y,V.ref a=V.ref p/\[v]=[y]/\P p x y) = ∃x,P a x v:=by simp
theorem G5{α β:Type}{P:Addr->Addr->α->β->Prop}:(∃p,∃q,∃x,∃y,V.ref a=V.ref p/\V.ref b=V.ref q/\P p q x y) = ∃x,∃y,P a b x y:=by simp
def E3(i:Nat):TE:=λσ H Q=>match σ[i]? with
 |some (some v)=>Q v H
 |_=>False
def BO(g:Int->Int->V):R2
 | .int i,.int j,H,Q=>Q (g i j) H
 |x,y,H,Q=>y4 g x y H Q
def GI(C:Int->Int->Prop)(g:Int->Int->V):R2
 | .int i,.int j,H,Q=>C i j/\Q (g i j) H
 |x,y,H,Q=>rI C g x y H Q
def xZ(K:Ly):R2
 | .ref p,.int i,H,Q=>∃xs,aN K H p xs/\∃v,iG xs i=some v/\Q v H
 |x,y,H,Q=>zw K x y H Q
def xG(K:Ly):R2
 | .ref p,.int i,H,Q=>∃xs,dO K H p xs/\∃v,iG xs i=some v/\Q v H
 |x,y,H,Q=>Br K x y H Q
theorem AE:BO g x y H Q=y4 g x y H Q:=by
 unfold BO;split
 ·simp[y4]
 ·rfl
theorem Eb:GI C g x y H Q=rI C g x y H Q:=by
 unfold GI;split
 ·simp[rI]
 ·rfl
theorem xB{K:Ly}:xZ K x y H Q=zw K x y H Q:=by
 unfold xZ;split
 ·simp[zw]
 ·rfl
theorem xP{K:Ly}:xG K x y H Q=Br K x y H Q:=by
 unfold xG;split
 ·simp[Br]
 ·rfl
theorem CU{i j:Int}{H:Hp}:BO g (.int i) (.int j) H Q=Q (g i j) H:=rfl
theorem E4{i j:Int}{H:Hp}:GI C g (.int i) (.int j) H Q=(C i j/\Q (g i j) H):=rfl
theorem AL{K:Ly}{i:Int}{H:Hp}:xZ K (.ref p) (.int i) H Q = ∃xs,aN K H p xs/\∃v,iG xs i=some v/\Q v H:=rfl
theorem Bl{K:Ly}{i:Int}{H:Hp}:xG K (.ref p) (.int i) H Q = ∃xs,dO K H p xs/\∃v,iG xs i=some v/\Q v H:=rfl
theorem Iq{α β:Type}{f:α->β}{a:α}{l:List α}:List.map f (a::l)=f a::List.map f l:=rfl
theorem Kn{α β:Type}{f:α->β}:List.map f []=[]:=rfl
theorem Kh{α:Type}{a:α}{l m:List α}:(a::l)++m=a::(l++m):=rfl
theorem Ke{α:Type}{m:List α}:[]++m=m:=rfl
theorem IR{α:Type}{a:α}{l:List α}:(a::l)[0]?=some a:=rfl
theorem Iw{α:Type}{a:α}{l:List α}{n:Nat}:(a::l)[n+1]?=l[n]?:=rfl
theorem IN{α:Type}{a b:α}{l:List α}:(a::l).set 0 b=b::l:=rfl
theorem IZ{α:Type}{a b:α}{l:List α}{n:Nat}:(a::l).set (n+1) b=a::l.set n b:=rfl
section
variable {X:Cx}
theorem ar(i:Nat){x:Str}{pos:Pos}(hN:autoParam (X.N[i]?=some x) zz0._auto_1)(hv:autoParam (GO X.env.scope x) zz6._auto_1)(hd:autoParam ((x==("__debug__":Str))=false) zz1._auto_1)
  (hc:autoParam ((x==("__classdict__":Str))=false) zz1._auto_1):PE X (.Name x pos) (E3 i):=λpins s σ H Q I h=>pv i hN hv hd hc pins s σ H Q I (by
 unfold E3 at h
 split at h
 ·exact⟨_,‹_›,h⟩
 ·exact h.elim)
theorem bE.m0{f:Value->Value->Sem Value}(h:bE X f (y4 g)):bE X f (BO g):=λpins s σ H x y v u Q I a b c=>h pins s σ H x y v u Q I a b (AE▸c)
theorem bE.m1{f:Value->Value->Sem Value}(h:bE X f (rI C g)):bE X f (GI C g):=λpins s σ H x y v u Q I a b c=>h pins s σ H x y v u Q I a b (Eb▸c)
theorem bd:Fk X (xZ X.K):=λe sl pins s σ H x y v u Q I a b c d=>rC e sl pins s σ H x y v u Q I a b (xB▸c) d
theorem bV:Fk X (xG X.K):=λe sl pins s σ H x y v u Q I a b c d=>EL e sl pins s σ H x y v u Q I a b (xP▸c) d
end
inductive TrD:Dt->Prop
 |mk (i:Int) (ds:List Dt):(∀d∈ds,TrD d)->TrD (.tup (.int i::ds))
section
variable {β:Type}{A:Hp->Addr->β->Prop}
def aW(A:Hp->Addr->β->Prop)(H:Hp)(bs:LD)(ys:List β):Prop:=bs.length=ys.length/\∀(i:Nat) b y,bs[i]?=some b->ys[i]?=some y->A H b y
def jH(A:Hp->Addr->β->Prop)(H:Hp)(l:Addr)(ys:List β):Prop:=∃bs:List Addr,H l=some (.lst (bs.map V.ref))/\aW A H bs ys
theorem aW.nil:aW A H [] []:=⟨rfl,λi b y e=>by simp at e⟩
theorem aW.mono{A':Hp->Addr->β->Prop}{bs:LD}{ys:List β}(h:aW A H bs ys)(u:∀b y,b∈bs->y∈ys->A H b y->A' H' b y):aW A' H' bs ys:=⟨h.1,λi b y e1 e2=>u b y (KH e1) (KH e2) (h.2 i b y e1 e2)⟩
theorem aW.snoc{bs:LD}{ys:List β}{y:β}(h:aW A H bs ys)(e:A H b y):aW A H (bs++[b]) (ys++[y]):=by
 refine⟨by rw[K3,K3,h.1];rfl,λi c z a d=>?_⟩
 by_cases g:i<bs.length
 ·rw[K2 g]at a
  rw[K2 (by rw[<- h.1];exact g)]at d;exact h.2 i c z a d
 ·have jS:i=bs.length:=by
   have:=(KA.mp a).1;simp at this;omega
  subst jS;rw[K1 (K4 _),Nat.sub_self]at a;rw[h.1,K1 (K4 _),Nat.sub_self]at d;cases a;cases d
  exact e
theorem aW.get{bs:LD}{ys:List β}{i:Nat}{b:Addr}(h:aW A H bs ys)(e:bs[i]?=some b):∃y,ys[i]?=some y/\A H b y:=by
 have c:=(KA.mp e).1;have a:ys[i]?=some (ys[i]'(by rw[<- h.1];exact c)):=Kz _;exact⟨_,a,h.2 i b _ e a⟩
theorem aW.one{H:Hp}{b:Addr}{y:β}(e:A H b y):aW A H [b] [y]:=aW.nil.snoc e
theorem aW.two{H:Hp}{b c:Addr}{y z:β}(e:A H b y)(e2:A H c z):aW A H [b,c] [y,z]:=(aW.one e).snoc e2
theorem aW.zip{bs:LD}{ys:List β}(h:aW A H bs ys):bs.map V.ref=(bs.zip ys).map λx=>V.ref x.1:=by
 have e:=KS (f:=Prod.fst) (g:=V.ref) (l:=bs.zip ys);rw[List.map_fst_zip (by rw[h.1];exact K4 _)]at e;exact e
theorem aW.at{bs:LD}{ys:List β}(h:aW A H bs ys){i:Nat}{x:Addr×β}(e:(bs.zip ys)[i]?=some x):ys[i]?=some x.2/\A H x.1 x.2:=by
 obtain⟨b,y⟩:=x;obtain⟨c,a⟩:=List.getElem?_zip_eq_some.mp e;exact⟨a,h.2 i b y c a⟩
end
section
variable {K:Ly}{g:TG}{ti:TT}{te:TE}{σ:St}{H:Hp}{Q:List V->Hp->Prop}{α β:Type}
theorem oS(A:Hp->Addr->β->Prop)(up:∀{H H':Hp} {b:Addr} {y:β},A H b y->aD H H'->A H' b y){a:Addr}{as:List α}{emb:α->V}{ys:List β}(hlen:as.length=ys.length)(S:St->Prop)(h0:S σ)(hl:∀H',aD H H'->aN K H' a (as.map emb))(hn:as.length<=1000000)
  (hs:∀(i:Nat) x y,as[i]?=some x->ys[i]?=some y->∀σ H' (N1:V->St->Hp->Prop) (N0:St->Hp->Prop),S σ->aD H H'->(∀b σ2 H2,A H2 b y->aD H H2->aD H' H2->S σ2->N1 (.ref b) σ2 H2) ->
   g (emb x) σ H' λσ2 H3=>ti σ2 H3 λb H4=>if b=true then te σ2 H4 λv H5=>N1 v σ2 H5 else N0 σ2 H4)
  (he:∀bs H',aD H H'->aW A H' bs ys->Q (bs.map V.ref) H'):fJ (BT K a) g ti te σ H Q:=by
 refine eC (xs:=as.map emb) (λi c σ H'=>aD H H'/\(∃bs:List Addr,c=bs.map V.ref/\aW A H' bs (ys.take i))/\i<=as.length/\S σ) ⟨λ_ _ e=>e,⟨[],rfl,aW.nil⟩,K5 _,h0⟩ ?_ ?_ ?_ ?_ ?_
 ·rintro i c σ H' ⟨_,⟨bs,rfl,h⟩,_⟩
  have:=h.1;rw[Lg]at this;rw[KD];exact aR ⋯
 ·rintro i c σ H' ⟨_,_,h,_⟩
  rw[KD];exact h
 ·rintro i c σ H' ⟨sm,_⟩
  exact hl _ sm
 ·rintro i x c σ H' k ⟨sm,⟨bs,rfl,j⟩,hi,m⟩
  have d:i<as.length:=by have:=(KA.mp k).1;rwa [KD]at this
  rw[KG,Kz d]at k;cases k;have l:ys[i]?=some (ys[i]'⋯):=Kz ⋯;refine hs i as[i] _ (Kz d) l σ H' (λv σ2 H5=>_) (λσ2 H4=>_) m sm (λb σ2 H2 hA s2 s3 hS2=>⟨s2,⟨bs++[b],by rw[KQ];rfl,?_⟩,d,hS2⟩)
  ·rw[q0E,l]
   exact(j.mono λb y _ _ h=>up h s3).snoc hA
 ·rintro c σ H' ⟨sm,⟨bs,rfl,j⟩,_⟩
  have e:ys.take (as.map emb).length=ys:=by rw[KD,hlen,Lf]
  rw[e]at j;exact he _ _ sm j
end
end L2
namespace L2
open PySem PySem.Spec PyProof.Rows QL PySem.Builtin
section
variable {X:Cx}
def xk(z:Str):Value->Bool
 | .str y _=>y.cps.toList==z.cps.toList
 |_=>false
theorem CY{t:Tok}(h:xk z (.str y t)=true):y=z:=by
 have h1:y.cps.toList=z.cps.toList:=by simpa[xk]using h
 cases y;cases z
 simp only[Str.mk.injEq];exact Array.toList_inj.mp h1
def tX:V->List V->Hp->VK->Prop:=λx vs H Q=>∃(l:Addr) (ts:LI) (z:Str) (j:Nat),x=.ref l/\vs=[.str z]/\H l=some (.lst (ts.map V.str))/\ts[j]?=some z/\(∀m y,m<j->ts[m]?=some y->y≠z)/\Q (.int (j:Int)) H
theorem zu:Ho X "list.index" tX:=by
 intro pins s σ H x vs v us Q I rx rv h;obtain⟨l,c,z,j,rfl,rfl,J,G,B,q⟩:=h;cases rx;obtain⟨u,rfl,M⟩:=rv.one;obtain⟨t,rfl⟩:=M;obtain⟨L,b,n,r,S,e⟩:=I.lstM J;have hjl:j<c.length:=(KA.mp G).1;have k:∀(m:Nat) y,c[m]?=some y->∃d,b[m]?=some (.str y d):=by
  intro m y p;obtain⟨w,R,o⟩:=r.get (i:=m) (x:=.str y) (by rw[KG,p];rfl);obtain⟨d,rfl⟩:=o;exact⟨d,R⟩
 have hll:b.length=c.length:=by rw[<- S,KD]
 have hsl:=I.lstM J;have O:b.length<=sizeLine:=by
  have:=L;omega
 rw[q0W]at O;refine call_meets F.slot_list_index ⟨_,e,rfl⟩ F.entry_list_index (F.args_list_index_2 _ _)
  (MeetsSeq.list_index l b.toArray n (.str z t) (xk z) (λy p=>?_) j (by rw[KL];omega) ⋯ ?_ ?_) ⟨e,?_⟩
 ·obtain⟨m,C,U⟩:=List.getElem_of_mem (by simpa using p)
  obtain⟨d,a⟩:=k m (c[m]'⋯) (Kz _);rw[Kz C,U]at a
  injection a with a
  subst a;exact PySem.SeqRoads2.EqGives.str _ _ _ _
 ·obtain⟨d,a⟩:=k j z G
  rw[Kz ⋯]at a
  injection a with a
  show xk z b[j]=true;rw[a];simp[xk]
 ·intro m C D
  have g:m<c.length:=by rw[KL]at C;omega
  obtain⟨d,a⟩:=k m (c[m]'g) (Kz _);rw[Kz ⋯]at a
  injection a with a
  show xk z b[m]=false;rw[a];cases T:xk z (.str (c[m]'g) d) with
  |false=>rfl
  |true=>exact q0Q (CY T) (B m _ D (Kz g))
 ·exact⟨.int _,H,I.tok _,⟨_,rfl⟩,q⟩
end
section
variable {K:Ly}{g:TG}{ti:TT}{te:TE}{σ:St}{H:Hp}{Q:List V->Hp->Prop}{α β:Type}
theorem uG{as:List α}{f:α->Option β}{i:Nat}{x:α}(hx:as[i]?=some x):(as.take (i+1)).filterMap f=(as.take i).filterMap f++(f x).toList:=by
 rw[q0E,hx,List.filterMap_append];show _++List.filterMap f [x]=_;cases h:f x<;>simp[h]
theorem vg(A:Hp->Addr->β->Prop)(up:∀{H H':Hp} {b:Addr} {y:β},A H b y->aD H H'->A H' b y){a:Addr}{as:List α}{emb:α->V}{f:α->Option β}(S:St->Prop)(h0:S σ)(hl:∀H',aD H H'->aN K H' a (as.map emb))(hn:as.length<=1000000)
  (hs:∀(i:Nat) x,as[i]?=some x->∀σ H' (N1:V->St->Hp->Prop) (N0:St->Hp->Prop),S σ->aD H H'->(∀b y σ2 H2,f x=some y->A H2 b y->aD H H2->aD H' H2->S σ2->N1 (.ref b) σ2 H2)->(∀σ2 H2,f x=none->aD H H2->aD H' H2->S σ2->N0 σ2 H2) ->
   g (emb x) σ H' λσ2 H3=>ti σ2 H3 λb H4=>if b=true then te σ2 H4 λv H5=>N1 v σ2 H5 else N0 σ2 H4)
  (he:∀bs H',aD H H'->aW A H' bs (as.filterMap f)->Q (bs.map V.ref) H'):fJ (BT K a) g ti te σ H Q:=by
 refine eC (xs:=as.map emb) (λi c σ H'=>aD H H'/\(∃bs:List Addr,c=bs.map V.ref/\aW A H' bs ((as.take i).filterMap f))/\i<=as.length/\S σ) ⟨λ_ _ e=>e,⟨[],rfl,aW.nil⟩,K5 _,h0⟩ ?_ ?_ ?_ ?_ ?_
 ·rintro i c σ H' ⟨_,⟨bs,rfl,h⟩,_⟩
  have:=h.1;have h2:=List.length_filterMap_le f (as.take i);rw[Lg]at h2;rw[KD];exact aR ⋯
 ·rintro i c σ H' ⟨_,_,h,_⟩
  rw[KD];exact h
 ·rintro i c σ H' ⟨sm,_⟩
  exact hl _ sm
 ·rintro i x c σ H' k ⟨sm,⟨bs,rfl,j⟩,hi,m⟩
  have d:i<as.length:=by have:=(KA.mp k).1;rwa [KD]at this
  rw[KG,Kz d]at k;cases k;have l:as[i]?=some as[i]:=Kz d;refine hs i as[i] l σ H' (λv σ2 H5=>_) (λσ2 H4=>_) m sm (λb y σ2 H2 hf hA s2 s3 hS2=>⟨s2,⟨bs++[b],by rw[KQ];rfl,?_⟩,d,hS2⟩) (λσ2 H2 hf s2 s3 hS2=>⟨s2,⟨bs,rfl,?_⟩,d,hS2⟩)
  ·rw[uG l,hf]
   exact(j.mono λb y _ _ h=>up h s3).snoc hA
  ·rw[uG l,hf]
   show aW A H2 bs (_++[]);rw[Lc];exact j.mono λb y _ _ h=>up h s3
 ·rintro c σ H' ⟨sm,⟨bs,rfl,j⟩,_⟩
  have e:(as.take (as.map emb).length).filterMap f=as.filterMap f:=by rw[KD,Lf]
  rw[e]at j;exact he _ _ sm j
end
end L2
namespace L2
open PySem PySem.Spec PyProof.Rows QL PySem.Builtin PySem.Builtin.Str
section
variable {X:Cx}
def BU:R2:=λx y H Q=>∃(r:LA) (n:Nat),x=.str (tx r)/\y=.int (n:Int)/\1<=n/\n<=1000/\r.length<=1000/\Q (.str (tx (List.replicate n r).flatten)) H
theorem x_(r:LA):∀n (a:LA),(List.replicate n (tx r).cps).foldl (· ++ ·) a.toArray=(a++(List.replicate n r).flatten).toArray
 |0,a=>by simp
 |n+1,a=>by
  rw[q0c,List.foldl_cons,q0c,List.flatten_cons];have:a.toArray++(tx r).cps=(a++r).toArray:=by show a.toArray++r.toArray=_;simp
  rw[this,x_ r n (a++r),Ld]
theorem C7:bE X (binaryOp .Mult) BU:=by
 intro pins s σ H x y v u Q I rx ry h;obtain⟨r,n,rfl,rfl,n1,n2,hr,q⟩:=h;obtain⟨t,rfl⟩:=rx;obtain⟨t',rfl⟩:=ry;have hl:(tx r).length*n<=1000*1000:=by rw[aC];exact Nat.mul_le_mul hr n2
 refine P.mul_str ?_ (λ_ _=>?_) (λ_ _=>?_) ?_
 ·rw[q08 ⋯,q08 ⋯];rfl
 ·have h1:((tx r).length:Int)<=1000:=by rw[aC];omega
  have h2:(1000:Int)<=(2 ^ 63-1)/(n:Int):=by
   rw[Int.le_ediv_iff_mul_le ⋯];omega
  omega
 ·rw[KN]
  show decide (_>sizeLine)=false;rw[decide_eq_false_iff_not];have:=q0W;omega
 ·rw[q06 ⋯]
  split
  ·rename_i hc
   have e:tx (List.replicate n r).flatten=tx r:=by
    rcases(by simpa[aC]using hc:(n:Int)=1\/r=[]) with h | h
    ·have:n=1:=by omega
     subst this;simp
    ·subst h;simp
   rw[e]at q;exact⟨.str (tx r),H,I,⟨_,rfl⟩,q⟩
  ·rw[KN]
   have e:(⟨(List.replicate n (tx r).cps).foldl (· ++ ·) #[]⟩:Str)=tx (List.replicate n r).flatten:=by
    have:=x_ r n [];rw[Lq]at this;show Str.mk _=Str.mk _;rw[<- this]
   rw[e];have hz:(tx (List.replicate n r).flatten).length<=1000000:=by
    rw[aC,tQ,Nat.mul_comm];rw[aC]at hl;exact hl
   exact⟨az hz,.str _,H,I.tok _,⟨_,rfl⟩,q⟩
end
theorem dN{H H':Hp}(h:H l=none)(e:aE H l o=H'):aD H H'/\H' l=some o:=by subst e;exact⟨ao h,af⟩
section
variable {prog:LH}{w:LK}{A:LJ}{E:Lx}{s:LB}{d it:Addr}{od:Obj}{es:Array DictEntry}{ep i:Nat}
theorem yb{Q:Lx}(ho:s.heap.get? d=some od)(hx:od.ExactDict)(hd:od.data=.dict es ep)(hm:(d==sysModules)=false)
  (q:Q (.ref s.heap.objs.size) {s with heap:=s.heap.push {cls:=.type "dict_keyiterator",data:=.fields #[.ref d,.int 0 0,.int es.size 0,.int ep 0]} }):wpAny b⁻¹ A (pyIter (.ref d)) Q E s:=by
 have a:s.TypeIs (.ref d) "dict":=⟨od,ho,hx.1⟩;refine wpAny_pyIter_slot a PySem.F.slot_dict_iter (wpAny_call_entry PySem.F.slot_dict_iter a PySem.F.entry_dict_iter ?_ (PySem.F.args_dict_iter_1 _));unfold Builtin.«dict.__iter__» Builtin.Dict.dictSlotNone;refine q04 (q04 (wpAny_notOrdered_dict a (q05 ?_)));show wpAny _ _ (Builtin.Dict.showsAll d >>= _) _ _ s;have b:Builtin.Dict.showsAll d=pure ():=by unfold Builtin.Dict.showsAll;rw[hm];rfl
 rw[b];refine q04 (q05 (q04 (wpAny_dictEntries ho hd (q04 (wpAny_dictEpoch ho hd ?_)))));exact q04 (wpAny_newObj_type (q05 ⟨_,rfl,"dict_keyiterator",_,⟨_,KJ _ rfl,rfl⟩,PySem.F.slot_dict_keyiterator_next.lookup,by simpa[rawInt]using q⟩))
theorem xE{e:DictEntry}{Q:Option Value->Shared->Prop}(hit:s.heap.IsKeyIter it d i es.size ep)(ho:s.heap.get? d=some od)(hd:od.data=.dict es ep)(hi:es[i]?=some e)
  (q:∀h',h'.IsKeyIter it d (i+1) es.size ep->Heap.SameBut it s.heap h'->Q (some e.key) {s with heap:=h' }):wpAny b⁻¹ A (pyNext (.ref it)) Q E s:=by
 obtain⟨oi,c,j,a⟩:=id hit;have g:Builtin.Dict_items.ownsTuple "dict_keyiterator"=false:=by decide
 have k:¬ ((Value.ref d==Value.none)=true):=K6;refine q04 (wpAny_attempt (wpAny_callSpecial?_slot (name:=Str.ofString "__next__") hit.typeIs PySem.F.slot_dict_keyiterator_next (wpAny_call_entry PySem.F.slot_dict_keyiterator_next hit.typeIs PySem.F.entry_dict_keyiterator_next ?_ (PySem.F.args_dict_keyiterator_next_1 _))));refine q04 (q05 (q04 (q04 (q04 (wpAny_typeNameOfWhole_keyiter hit.typeIs (q05 (q04 (wpAny_fieldsOf c a ?_))))))));simp only[g,q0a,if_false];show wpAny _ _ (if(Value.ref d==Value.none)=true then _ else _) _ _ s;rw[q06 k];refine q04 (q05 (q04 (wpAny_dictEntries ho hd ?_)));rw[q06 (by simp)];refine q04 (q05 (q04 (wpAny_dictEpoch ho hd ?_)));rw[q06 (by simp)];refine q05 ?_;have l:¬ ((i:Int)<0):=by omega
 simp only[l,if_false,KN,hi];refine q04 (q04 (wpAny_typeNameOfWhole_keyiter hit.typeIs (q05 (q04 (wpAny_isOneOf_keyiter hit.typeIs ?_)))));show wpAny _ _ (setField (.ref it) 1 (rawInt ((i:Int)+1)) >>= _) _ _ s;have b:(s.heap.update it (Obj.mapFields (·.setIfInBounds 1 (rawInt ((i:Int)+1))))).IsKeyIter it d (i+1) es.size ep:=⟨_,KO _ c (Obj.isFreed_of_fields (Obj.data_mapFields a _)),(Obj.cls_mapFields ..).trans j,by rw[Obj.data_mapFields a];simp[rawInt]⟩;refine q04 (wpAny_setField c a (by simp) (q04 (q0Y (q04 (wpAny_isOneOf_keyiter (s:={s with heap:=s.heap.update it (Obj.mapFields (·.setIfInBounds 1 (rawInt ((i:Int)+1))))}) b.typeIs ?_)))));show wpAny _ _ (pure e.key) _ _ _;exact q05 (q05 ⟨_,rfl,q05 (q _ b (Heap.SameBut.update ..))⟩)
theorem BV{Q:Option Value->Shared->Prop}(hh:A.handled=none)(hit:s.heap.IsKeyIter it d i es.size ep)(ho:s.heap.get? d=some od)(hd:od.data=.dict es ep)(hi:es.size<=i)
  (q:∀h',Heap.ExtBut it s.heap h'->Q none {s with heap:=h' }):wpAny b⁻¹ A (pyNext (.ref it)) Q E s:=by
 obtain⟨oi,c,hci,e⟩:=id hit;have g:Builtin.Dict_items.ownsTuple "dict_keyiterator"=false:=by decide
 have j:¬ ((Value.ref d==Value.none)=true):=K6;refine q04 (wpAny_attempt (wpAny_callSpecial?_slot (name:=Str.ofString "__next__") hit.typeIs PySem.F.slot_dict_keyiterator_next (wpAny_call_entry PySem.F.slot_dict_keyiterator_next hit.typeIs PySem.F.entry_dict_keyiterator_next ?_ (PySem.F.args_dict_keyiterator_next_1 _))));refine q04 (q05 (q04 (q04 (q04 (wpAny_typeNameOfWhole_keyiter hit.typeIs (q05 (q04 (wpAny_fieldsOf c e ?_))))))));simp only[g,q0a,if_false];show wpAny _ _ (if(Value.ref d==Value.none)=true then _ else _) _ _ s;rw[q06 j];refine q04 (q05 (q04 (wpAny_dictEntries ho hd ?_)));rw[q06 (by simp)];refine q04 (q05 (q04 (wpAny_dictEpoch ho hd ?_)));rw[q06 (by simp)];refine q05 ?_;have k:¬ ((i:Int)<0):=by omega
 simp only[k,if_false,KN,Array.getElem?_eq_none hi];refine q04 (q04 (wpAny_typeNameOfWhole_keyiter hit.typeIs (q05 ?_)));show wpAny _ _ (setField (.ref it) 0 .none >>= _) _ _ s;refine q04 (wpAny_setField c e (by simp) ?_);show wpAny _ _ (newExc (.type "StopIteration") [] >>= _) _ _ _;refine q04 ?_;simp only[newExc,newTuple];refine q04 (wpAny_newObj_type ?_ (by size_fits));refine q04 (m:=firstArgMember _ _) (wpAny_of_eq (a:=Value.none) (by first | rfl | (simp only[firstArgMember];rfl)) (wpAny_newObj_type ?_ (by size_fits)));simp only[raiseNew];refine q04 (wpAny_handled ?_);rw[show A.in1.handled=none from hh];refine q04 (q05 (wpAny_throw ?_));exact q04 (wpAny_isInstance (T:="StopIteration") (b:=true) ⟨_,KJ _ rfl,rfl⟩ isSubtype_stop (q05 (q _ (((Heap.SameBut.update ..).extBut.push _).push _))))
end
def Be(a:Addr)(od:Obj)(kvs:List (List cL×V)):It:=
 ⟨λi H=>H a=some (.frz od (.dT kvs))/\i<kvs.length,λi H x H'=>H'=H/\∃b kv,x=.ref b/\kvs[i]?=some kv/\H b=some (.tup (kv.1.map kV)),λi H=>H a=some (.frz od (.dT kvs))/\kvs.length<=i⟩
theorem kJ{α β:Type}{F:α->β->Prop}{l₁:List α}{l₂:List β}(h:Paired F l₁ l₂):∀{i:Nat} {x:α},l₁[i]?=some x->∃y,l₂[i]?=some y/\F x y:=by
 induction h with
 |nil=>intro i x e;simp at e
 |cons r t ih=>
  intro i x e;cases i with
  |zero=>rw[List.getElem?_cons_zero]at e;cases e;exact⟨_,rfl,r⟩
  |succ i=>exact ih e
theorem iT{α β:Type}{F:α->β->Prop}{l₁:List α}{l₂:List β}(h:Paired F l₁ l₂):l₁.length=l₂.length:=by
 induction h with
 |nil=>rfl
 |cons r t ih=>exact q0R Nat.succ ih
theorem we{od:Obj}(ok:i4 P w H h)(e:H a=some (.frz od (.dT kvs))):h.get? a=some od/\∃es ep,od.ExactDict/\od.data=.dict es ep/\es.size=kvs.length/\(a==sysModules)=false/\∀(i:Nat) kv,kvs[i]?=some kv->∃en b,es[i]?=some en/\en.key=.ref b/\H b=some (.tup (kv.1.map kV)):=by
 obtain⟨j,_,m,xs,d,o,es,ep,g,l,p,c,_⟩:=(show b8 P w H h a (.frz od (.dT kvs)) from ok a _ e);rw[j]at g;cases g;refine⟨j,es,ep,l,p,?_,m,λi kv n=>?_⟩
 ·rw[<- Array.length_toList,c,KD,iT d]
 ·obtain⟨y,k,h1,h2,h3⟩:=kJ d n
  refine⟨entryOfKey (tupleKind (b5 P w)) y,y.2.1,?_,rfl,h2⟩;rw[<- q0G,c,KG,k];rfl
theorem DG{K:Ly}{tg:Expr}(a it:Addr)(od:Obj)(kvs:List (List cL×V))(ep:Nat)(es:Array DictEntry)(hd:od.data=.dict es ep)(hn:es.size=kvs.length):qd P w K tg (Be a od kvs) [it] it (λi h=>h.IsKeyIter it a i es.size ep) where
 mem:=by simp
 obj:=λi h g b l=>by
  have e:b=it:=by simpa using l
  subst e;obtain⟨o,e,c,d⟩:=g;exact⟨o,e,λv z=>by rw[d]at z;cases z⟩
 keep:=λi h p g k=>by
  obtain⟨o,e,c,d⟩:=g;exact⟨o,k it (by simp) o e,c,d⟩
 item:=by
  intro X u q x M i j s σ H E I hf g hg;subst u q x;obtain⟨J,G,f2,D,C,B⟩:=hf it (by simp);obtain⟨y,r⟩:=hg;obtain⟨L,es',ep',hx',n,hn',hs',R⟩:=we I.hok y;rw[hd]at n;cases n;obtain⟨en,b,h1,h2,S⟩:=R i _ (Kz r);refine xE g L hd h1 λp m O=>?_;have U:Inv X j σ H {s with heap:=p }:=I.turned (t':=s.toks) (λb o l e=>(O.2 b l).trans e) J G D C B;obtain⟨o,e,c,d⟩:=id m;exact⟨_,rfl,qt (s:={s with heap:=p }) e c d (by decide) ⟨.ref b,H,U,h2.symm▸rfl,⟨rfl,b,_,rfl,Kz r,S⟩,m,λb l=>(hf b l).1⟩⟩
 done:=by
  intro X u q x M i j s σ H E I hf g hg;subst u q x;obtain⟨J,G,f2,D,C,B⟩:=hf it (by simp);obtain⟨y,r⟩:=hg;obtain⟨L,_⟩:=we I.hok y;exact BV (I.ok.hd M) g L hd ⋯ λp T=>⟨rfl,I.turned (t':=s.toks) (λb o l e=>T b o l e) J G D C B⟩
 self:=λA i s Q E g h=>wpAny_pyIter_keyiter g h
section
variable {X:Cx}{pins:Lz}{σ:St}{H:Hp}{s:LB}
theorem Inv.freezeD(I:Inv X pins σ H s){a:Addr}{kvs:List (List cL×V)}(h:H a=some (.dT kvs)):∃o,Inv X pins σ (aE H a (.frz o (.dT kvs))) s:=by
 obtain⟨z,y,i,pr,o,es,ep,g,r⟩:=(show b8 X.prog X.w H s.heap a (.dT kvs) from I.hok a _ h);refine⟨o,?_⟩;have d:∀b u,H b=some u->(∀ks,u≠.dT ks)->aE H a (.frz o (.dT kvs)) b=some u:=λb u e l=>by
  rw[av (λq=>by rw[q,h]at e;cases e;exact l _ rfl)];exact e
 have hok:i4 X.prog X.w (aE H a (.frz o (.dT kvs))) s.heap:=λb u e=>by
  have j:∀{u:HO},b8 X.prog X.w H s.heap b u->b8 X.prog X.w (aE H a (.frz o (.dT kvs))) s.heap b u:=λq=>q.stay (λc v _ q=>q) (λc q=>d c _ q (by intro ks z;cases z)) λc i q=>d c _ q (by intro ks z;cases z)
  by_cases k:b=a
  ·subst k
   rw[af]at e;cases e;exact⟨g,j (I.hok b _ h)⟩
  ·rw[av k]at e
   exact j (I.hok b u e)
 have un:Un X.fs [] H (aE H a (.frz o (.dT kvs))) s.heap s.heap:=⟨λb o e _ _ _=>e,λb o e _ _ _=>⟨o.slots,e⟩,λb o' _ n _=>by rw[av (λq=>by rw[q,h]at n;cases n)];exact n,λb o e _=>⟨o,e⟩,λb i e=>d b _ e (by intro ks z;cases z),λb o u e=>d b _ e (by intro ks z;cases z),λb ps e=>⟨#[],by rw[d b _ e (by intro ks z;cases z)];simp⟩⟩;exact I.un (h':=s.heap) (t':=s.toks) un hok
end
section
variable {X:Cx}{tg:Expr}
def G7(td:TE):TI:=λσ H R=>td σ H λx H1=>∃a kvs,x=.ref a/\((H1 a=some (.dT kvs)/\∀o,R (Be a o kvs) (aE H1 a (.frz o (.dT kvs))))\/∃o,H1 a=some (.frz o (.dT kvs))/\R (Be a o kvs) H1)
theorem FH{td:TE}(he:PE X e td):PI X tg e (G7 td):=by
 intro c s σ H R I h;refine cz (he c s σ H _ I h) λu j ⟨x,H1,l,m,a,d,y,q⟩=>?_;subst y;obtain rfl:u=Value.ref a:=m;obtain⟨o,H2,i,C,n⟩:∃o H2,Inv X c σ H2 j/\H2 a=some (.frz o (.dT d))/\R (Be a o d) H2:=by
  rcases q with⟨e,q⟩ | ⟨o,e,q⟩
  ·obtain⟨o,i⟩:=l.freezeD e
   exact⟨o,_,i,af,q o⟩
  ·exact⟨o,H1,l,e,q⟩
 obtain⟨g,z,B,p,k,v,r,_⟩:=we i.hok C;refine yb g p k r ?_;refine⟨j.heap.objs.size,[j.heap.objs.size],_,_,H2,rfl,i.kept (t':=j.toks) λb o e=>KC _ e,DG a _ o d B z k v,⟨_,KJ _ rfl,rfl,rfl⟩,λb w=>?_,n⟩;have e:b=j.heap.objs.size:=by simpa using w
 subst e;exact i.fpOk (K4 _) (i.hok.fresh (K4 _))
end
section
variable {g:TG}{tb:TS}{D:fF}{σ:St}{H:Hp}
theorem Dp{kvs:List (List cL×V)}(Pv:Nat->St->Hp->Prop)(h0:Pv 0 σ H)(hl:∀i σ H,i<=kvs.length->Pv i σ H->H a=some (.frz o (.dT kvs)))
  (hs:∀(i:Nat) b kv σ H,kvs[i]?=some kv->H b=some (.tup (kv.1.map kV))->Pv i σ H->g (.ref b) σ H λσ2 H2=>tb {D with nx:=Pv (i+1),ct:=Pv (i+1),bk:=D.nx} σ2 H2) (hd:∀σ H,Pv kvs.length σ H->D.nx σ H):rK (Be a o kvs) g tb D σ H:=by
 refine⟨λi m σ H=>m=kvs.length-i/\i<=kvs.length/\Pv i σ H,⟨kvs.length,by simp,K5 _,h0⟩,?_⟩;rintro i m σ H ⟨rfl,j,p⟩;have q:=hl i σ H j p
 by_cases c:i<kvs.length
 ·refine .inr ⟨⟨q,c⟩,Pv (i+1),λσ2 H2 w2=>⟨kvs.length-(i+1),⋯,rfl,c,w2⟩,λx H2 y=>?_⟩
  obtain⟨rfl,b,kv,rfl,d,k⟩:=y;exact hs i b kv σ _ d k p
 ·have e:i=kvs.length:=by omega
  subst e;exact .inl ⟨⟨q,K4 _⟩,hd _ _ p⟩
end
section
variable {X:Cx}
def Hs(K:Ly):R2:=λx y H Q=>∃(a b:Addr) (ss ts:LI),x=.ref a/\y=.ref b/\aN K H a (ss.map V.str)/\aN K H b (ts.map V.str)/\Q (.bl (decide (ss=ts))) H
theorem CM{ss ts:LI}(h:ss.length=ts.length):(List.range ss.length).all (λj=>decide (ss[j]?=ts[j]?))=decide (ss=ts):=by
 by_cases e:ss=ts
 ·subst e
  rw[q09 rfl,Ln];intro j _;exact q09 rfl
 ·rw[q08 e]
  cases b:(List.range ss.length).all (λj=>decide (ss[j]?=ts[j]?)) with
  |false=>rfl
  |true=>
   refine q0Q (List.ext_getElem? λj=>?_) e
   by_cases a:j<ss.length
   ·exact of_decide_eq_true (Ln.mp b j (List.mem_range.mpr a))
   ·rw[List.getElem?_eq_none ⋯,List.getElem?_eq_none ⋯]
theorem Fl(hu:X.A.units+64<cLine):bE X (compareOp .Eq) (Hs X.K):=by
 intro pins s σ H x y v u Q I rx ry h;obtain⟨a,b,c,d,rfl,rfl,S,R,q⟩:=h;cases rx;cases ry
 obtain⟨k,z,D,_⟩:=I.list S;obtain⟨g,w,C,_⟩:=I.list R;have M:=z.length;have L:=w.length
 rw[KD]at M L
 by_cases G:c.length=d.length
 ·have B:=SeqAt.RcAt.lists (A:=X.A) (s:=s) (e:=λj=>decide (c[j]?=d[j]?)) D.isList C.isList (by simp;omega) ⋯ (λj U T=>by
   have o:j<k.length:=by simpa using U
   have n:j<g.length:=by simpa using T
   have r:c[j]?=some (c[j]'⋯):=Kz _;have p:d[j]?=some (d[j]'⋯):=Kz _;obtain⟨w1,J,m⟩:=z.get (i:=j) (x:=.str (c[j]'⋯)) (by rw[KG,r];rfl);obtain⟨w2,f2,l⟩:=w.get (i:=j) (x:=.str (d[j]'⋯)) (by rw[KG,p];rfl);rw[Kz o]at J;rw[Kz n]at f2;cases J;cases f2
   simp only[Lp,r,p];have:=gz (A:=X.A.in1) (s:=s) m l rfl rfl;have Y:∀a b:Str,Cy (.str a) (.str b)=decide (some a=some b):=λa b=>by
    show(a==b)=_
    by_cases e:a=b
    ·subst e;simp
    ·rw[q08 (λh=>e (q0S h))];exact beq_eq_false_iff_ne.mpr e
   rw[Y]at this;exact this)
  have O:k.toArray.size=c.length:=by simp;omega
  rw[O,CM G]at B;exact B _ _ _ _ ⟨.bl _,H,I,rfl,q⟩
 ·rw[q08 (λe=>G (by rw[e]))]at q
  exact SeqAt.RcAt.lists_lengths D.isList C.isList (by simp;omega) ⋯ _ _ _ _ ⟨.bl false,H,I,rfl,q⟩
end
section
variable {prog:LH}{w:LK}{K:Type}[DecidableEq K]{knd:HeapKind prog w K}{A:LJ}{E:Lx}{s:LB}
theorem FJ{nm:String}{a b:Addr}{xa xb:List (K×Addr×Value)}{Q:Bool->Shared->Prop}(ha:(a==sysModules)=false)(hb:(b==sysModules)=false)(hu:knd.room A)
  (da:s.heap.DictOfH knd a xa) (db:s.heap.DictOfH knd b xb) (hl:xa.length=xb.length) (hits:∀(i:Nat) k p,xa[i]?=some (k,p)->∃(j:Nat) (q:Addr×Value),xb[j]?=some (k,q)/\SeqAt.EqAt A s p.2 q.2 true) (h:Q true s) :
  wpAny b⁻¹ A (Builtin.Dict.samePairs nm a b) Q E s:=by
 obtain⟨oa,c,ep,d,_,g,D,T,hna⟩:=da;obtain⟨ob,z,ep',m,_,u,r,S,B⟩:=db;have O:c.size=xa.length:=size_of_entries D;have M:z.size=xb.length:=size_of_entries r;unfold Builtin.Dict.samePairs Builtin.Dict.showsAll;rw[q06 (show ¬ (a==sysModules)=true by rw[ha];exact K6),q06 (show ¬ (b==sysModules)=true by rw[hb];exact K6)];refine q04 (q05 (q04 (q05 ?_)));refine q04 (wpAny_dictEntries d g ?_);dsimp only;refine q04 (wpAny_dictEntries m u ?_);have L:c.size=z.size:=by rw[O,M,hl]
 rw[q06 (by rw[L];simp)];refine q04 (wpAny_dictEpoch d g ?_);refine q04 ?_;rw[Std.Legacy.Range.forIn_eq_forIn_range'];simp only[Std.Legacy.Range.size,Nat.sub_zero,Nat.add_sub_cancel,Nat.div_one];refine wpAny_forIn_list _
  (λci q G=>G=s/\q=(none,())/\∃i,ci=List.range' i (c.size-i)/\i<=c.size)
  _ ?_ ?_ _ _ ⟨rfl,rfl,0,by simp,K5 _⟩
 ·rintro x ci q G ⟨rfl,rfl,i,hr,hi⟩
  have R:i<c.size:=by
   rcases Nat.lt_or_ge i c.size with h | h
   ·exact h
   ·rw[Nat.sub_eq_zero_of_le h]at hr;simp at hr
  obtain⟨rfl,l⟩:x=i/\ci=List.range' (i+1) (c.size-(i+1)):=by
   have e:c.size-i=(c.size-(i+1))+1:=by omega
   rw[e,List.range'_succ]at hr
   injection hr with h1 h2
   exact⟨h1,h2⟩
  refine q04 (wpAny_dictEntries d g ?_);obtain⟨⟨k,Y,v⟩,n⟩:∃y,xa[x]?=some y:=⟨xa[x]'⋯,Kz _⟩;have U:c[x]?=some ⟨knd.hash k,.ref Y,v⟩:=by rw[entry_at D x,n];rfl
  rw[U];obtain⟨j,q,I,he⟩:=hits x k _ n;have C:knd.is G.heap k Y:=T _ (KH n);show wpAny _ _ (holding [Value.ref Y,v] _ >>= _) _ _ _;refine q04 (q0Y (q04 (wpAny_dictFind_heap hu C m u r S B (λZ=>q0Q I (Z j q)) λJ p' o=>?_)));have ej:J=j:=idxH_unique B o I;subst ej;rw[I]at o;cases o;refine q04 (wpAny_dictEntries m u ?_);rw[show z[J]?=some ⟨knd.hash k,.ref q.1,q.2⟩ by rw[entry_at r J,I];rfl];refine q0Y (he prog w _ _ ?_);show wpAny _ _ (if(!true)=true then _ else _) _ _ _;rw[q06 (by decide)];refine q04 (wpAny_dictEpoch d g ?_);rw[q06 (by simp)];exact q05 ⟨rfl,rfl,x+1,l,R⟩
 ·rintro q G ⟨rfl,rfl,i,hr,hi⟩
  exact q05 h
theorem I8{a b:Addr}{xa xb:List (K×Addr×Value)}{Q:Lx}(ha:(a==sysModules)=false)(hb:(b==sysModules)=false)(hr:knd.room A.in1)
  (da:s.heap.DictOfH knd a xa) (db:s.heap.DictOfH knd b xb) (hu:A.units<cLine) (hl:xa.length=xb.length) (hits:∀(i:Nat) k p,xa[i]?=some (k,p)->∃(j:Nat) (q:Addr×Value),xb[j]?=some (k,q)/\SeqAt.EqAt A.in1 s p.2 q.2 true) (h:Q (.bool true) s) :
  wpAny b⁻¹ A (compareOp .Eq (.ref a) (.ref b)) Q E s:=by
 refine wpAny_richCompare_same_room (op:=.Eq) da.typeIs db.typeIs PySem.F.slot_dict_eq (wpAny_call_entry PySem.F.slot_dict_eq da.typeIs PySem.F.entry_dict_eq ?_ (PySem.F.args_dict_eq_2 _ _)) hu;show wpAny _ _ (Builtin.Dict.dictSlotArgs "__eq__" ⟨[.ref a,.ref b],[]⟩ >>= _) _ _ s;refine q04 ?_;unfold Builtin.Dict.dictSlotArgs;refine q04 (wpAny_notOrdered_dict da.typeIs ?_);show wpAny _ _ (pure (Value.ref a,Value.ref b)) _ _ s;refine q05 ?_;refine q04 (wpAny_isInstance (T:="dict") db.typeIs PySem.F.sub_dict_dict ?_);simp only[Bool.not_true,q0a,if_false];refine q04 (q05 (q04 (q05 ?_)));refine q04 (FJ ha hb hr da db hl hits ?_);refine q05 ⟨_,rfl,?_,?_⟩
 ·exact λx=>nomatch x
 ·simpa using h
end
section
variable {X:Cx}
structure GK(H:Hp)(a b:Addr)(kvs kvs':List (List cL×V)):Prop where
 da:Rd H a (.dT kvs)
 db:Rd H b (.dT kvs')
 len:kvs.length=kvs'.length
 all:∀(i:Nat) k v,kvs[i]?=some (k,v)->uh v=true/\∃j:Nat,kvs'[j]?=some (k,v)
theorem GK.hits{P:LH}{w:LK}{kvs':List (List cL×V)}{xa xb:List (List cL×Addr×Value)}(d:GK H a b kvs kvs')(ra:KT H kvs xa)(rb:KT H kvs' xb):xa.length=xb.length/\∀(i:Nat) k p,xa[i]?=some (k,p)->∃(j:Nat) (q:Addr×Value),xb[j]?=some (k,q)/\SeqAt.EqAt A s p.2 q.2 true:=by
 refine⟨by rw[<- iT ra,<- iT rb];exact d.len,λi k p l=>?_⟩;obtain⟨c,e⟩:∃c,kvs[i]?=some c:=by
  have:=(KA.mp l).1;rw[<- iT ra]at this;exact⟨_,Kz this⟩
 obtain⟨y,g,h1,_,h2⟩:=kJ ra e;rw[l]at g;cases g;obtain⟨f,j,n⟩:=d.all i c.1 c.2 e;obtain⟨z,m,r,_,o⟩:=kJ rb n;refine⟨j,z.2,by rw[m,show k=z.1 from(show c.1=k from h1).symm.trans r],?_⟩;have:=gz (A:=A) (s:=s) (show bH c.2 p.2 from h2) (show bH c.2 z.2.2 from o) f f
 rwa [AW f]at this
def Eu(neg:Bool):R2:=λx y H Q=>∃a b kvs kvs',x=.ref a/\y=.ref b/\GK H a b kvs kvs'/\Q (.bl (!neg)) H
theorem Er(hu:X.A.units+64<cLine):bE X (compareOp .Eq) (Eu false):=by
 intro pins s σ H x y v u Q I rx ry h;obtain⟨a,b,kvs,kvs',rfl,rfl,d,q⟩:=h;cases rx;cases ry
 obtain⟨_,i,xa,e,da⟩:=ke I.hok d.da;obtain⟨_,g,xb,c,db⟩:=ke I.hok d.db;obtain⟨j,k⟩:=d.hits (P:=X.prog) (w:=X.w) (A:=X.A.in1) (s:=s) e c;exact I8 i g (tupleKind_room_in1 ⋯) da db ⋯ j k ⟨.bl true,H,I,rfl,q⟩
end
end L2
namespace TS
open PySem PyProof.Rows
section
variable {M:Model}{A:LJ}{E:Lx}{J:Shared->Prop}{σ:Type}
def fw(M:Model)(A:LJ)(E:Lx)(J:Shared->Prop){α:Type}(m:StateT σ Sem α)(Q:α->σ->Prop)(st:σ):Prop:=
 ∀s,J s->wpAny M A (m.run st) (λr s'=>J s'/\Q r.1 r.2) E s
theorem aF{α:Type}{a:α}{Q:α->σ->Prop}{st:σ}(h:Q a st):fw M A E J (pure a:StateT σ Sem α) Q st:=by
 intro s j;rw[StateT.run_pure];exact q05 ⟨j,h⟩
theorem aA{α β:Type}{m:StateT σ Sem α}{f:α->StateT σ Sem β}{Q:β->σ->Prop}{st:σ}
  (h:fw M A E J m (λa st'=>fw M A E J (f a) Q st') st):fw M A E J (m >>= f) Q st:=by
 intro s j;rw[StateT.run_bind]
 exact q04 (q0X (h s j) (λr c b=>b.2 c b.1) λ_ _ e=>e)
theorem bZ{α:Type}{m:StateT σ Sem α}{Q Q':α->σ->Prop}{st:σ}(h:fw M A E J m Q st)(hq:∀a st',Q a st'->Q' a st'):fw M A E J m Q' st:=
 λs j=>q0X (h s j) (λr _ h'=>⟨h'.1,hq _ _ h'.2⟩) λ_ _ e=>e
theorem gN{Q:σ->σ->Prop}{st:σ}(h:Q st st):fw M A E J (get:StateT σ Sem σ) Q st:=by
 intro s j;rw[StateT.run_get];exact q05 ⟨j,h⟩
theorem dk{f:σ->σ}{Q:PUnit->σ->Prop}{st:σ}(h:Q ⟨⟩ (f st)):fw M A E J (modify f:StateT σ Sem PUnit) Q st:=by
 intro s j;rw[StateT.run_modify];exact q05 ⟨j,h⟩
theorem Gh{x:σ}{Q:PUnit->σ->Prop}{st:σ}(h:Q ⟨⟩ x):fw M A E J (set x:StateT σ Sem PUnit) Q st:=by
 intro s j;rw[StateT.run_set];exact q05 ⟨j,h⟩
theorem jL{α:Type}{m:Sem α}{Q:α->σ->Prop}{st:σ}(h:∀s,J s->wpAny M A m (λa s'=>J s'/\Q a st) E s) :
  fw M A E J (liftM m:StateT σ Sem α) Q st:=by
 intro s j;show wpAny M A ((StateT.lift m:StateT σ Sem α).run st) _ E s;rw[StateT.run_lift];exact q04 (q0X (h s j) (λa s' b=>q05 b) λ_ _ e=>e)
theorem B5{β:Type}(f:Nat->β->StateT σ Sem (ForInStep β))(I:List Nat->β->σ->Prop)(Q:β->σ->Prop)
  (hs:∀x ci b st,I (x::ci) b st->fw M A E J (f x b) (λr st'=>match r with | .done b'=>Q b' st' | .yield b'=>I ci b' st') st)
  (he:∀b st,I [] b st->Q b st):∀(l:LA) (b:β) (st:σ),I l b st->fw M A E J (forIn l b f) Q st
 | [],b,st,h=>by rw[List.forIn_nil];exact aF (he _ _ h)
 |x::ci,b,st,h=>by
  rw[List.forIn_cons];refine aA (bZ (hs x ci b st h) λr st' h'=>?_);cases r with
  |done b'=>exact aF h'
  |yield b'=>exact B5 f I Q hs he ci b' st' h'
theorem eS{β:Type}{a b:Nat}{f:Nat->β->StateT σ Sem (ForInStep β)}(I:Nat->β->σ->Prop){Q:β->σ->Prop}
  (hs:∀i c st,a<=i->i<b->I i c st->fw M A E J (f i c) (λr st'=>match r with | .done c'=>Q c' st' | .yield c'=>I (i+1) c' st') st)
  (he:∀c st,I (max a b) c st->Q c st) {c:β} {st:σ} (h:I a c st):fw M A E J (forIn [a:b] c f) Q st:=by
 rw[Std.Legacy.Range.forIn_eq_forIn_range'];have o:([a:b]:Std.Legacy.Range).size=b-a:=by simp[Std.Legacy.Range.size]
 show fw M A E J (forIn (List.range' a ([a:b]:Std.Legacy.Range).size 1) c f) Q st;rw[o];refine B5 f (λl c st=>∃n,l.length=n/\∃i,a<=i/\l=List.range' i n 1/\i+n=max a b/\I i c st) Q ?_ ?_ _ c st ⟨b-a,by simp,a,K4 _,rfl,⋯,h⟩
 ·rintro x ci c st ⟨n,e,i,d,g,j,k⟩
  cases n with
  |zero=>simp at e
  |succ n=>
   rw[List.range'_succ]at g;obtain⟨rfl,rfl⟩:=List.cons.inj g;refine bZ (hs x c st d ⋯ k) λr st' m=>?_;cases r with
   |done c'=>exact m
   |yield c'=>exact⟨n,by simp,x+1,⋯,rfl,⋯,m⟩
 ·rintro c st ⟨n,e,i,d,g,j,k⟩
  simp at e;subst e
  have:i=max a b:=by omega
  subst this;exact he _ _ k
end
section
variable {prog:LH}{w:LK}{A:LJ}{E:Lx}{J:Shared->Prop}{a₀:Array Keyed}{kd:SortKind}{r:Keyed->Nat}
def Cmp(prog:LH)(w:LK)(A:LJ)(J:Shared->Prop)(a₀:Array Keyed)(kd:SortKind)(r:Keyed->Nat):Prop:=
 ∀x,x∈a₀.toList->∀y,y∈a₀.toList->∀s,J s->wpAny b⁻¹ A (keyLt' kd x.1 y.1) (λb s'=>J s'/\b=decide (r x<r y)) (λ_ _=>False) s
theorem Bf(C:Cmp prog w A J a₀ kd r){x y:Keyed}(hx:x∈a₀.toList)(hy:y∈a₀.toList){st:SortSt}(hk:kindOf st=kd){Q:Option Bool->SortSt->Prop}
  (h:Q (some (decide (r x<r y))) st):fw b⁻¹ A E J (lt' x y) Q st:=by
 rw[lt'_eq];refine aA (gN ?_);rw[hk];refine aA (jL λs j=>wpAny_attempt (q0X (C x hx y hy s j) (λb s' c=>?_) λ_ _ e=>?_))
 ·obtain⟨a,rfl⟩:=c;exact⟨a,aF h⟩
 ·exact e.elim
theorem cH{arr:Array Keyed}{i:Nat}{p:Keyed}(hp:arr[i]?=some p){st:SortSt}{Q:Keyed->SortSt->Prop}(h:Q p st):fw b⁻¹ A E J (elem' arr i) Q st:=by
 rw[elem'_eq,hp];exact aF h
def hJ:Bool->Keyed->Array Keyed->Nat->Nat->Nat->StateT SortSt Sem (Option Nat):=sortPriv% PySem.Builtin.gallop
theorem uk{n lo hi:Nat}{st:SortSt}{Q:Option Nat->SortSt->Prop}{B:Nat->Bool}{bey:Nat->StateT SortSt Sem (Option Bool)}
  (be:∀i,i<n->∀{Q':Option Bool->SortSt->Prop},Q' (some (B i)) st->fw b⁻¹ A E J (bey i) Q' st)
  (hm:∀i j,i<=j->j<n->B j=true->B i=true) (hl:lo<=hi) (hh:hi<=n) (fl:∀i,i<lo->B i=true) (fh:∀i,hi<=i->i<n->B i=false)
  (h:∀k,k<=n->(∀i,i<k->B i=true)->(∀i,k<=i->i<n->B i=false)->Q (some k) st)
  {F:Nat->Option (Option Nat)×Nat×Nat->StateT SortSt Sem (ForInStep (Option (Option Nat)×Nat×Nat))}
  (hF:∀x l u,F x (none,l,u)=if l≥u then pure (ForInStep.done (none,l,u)) else bey (l+(u-l)/2) >>= λo=>match o with
   |some t=>if t=true then pure (ForInStep.yield (none,l+(u-l)/2+1,u)) else pure (ForInStep.yield (none,l,l+(u-l)/2))
   |none=>pure (ForInStep.done (some none,l,u)))
  {G:Option (Option Nat)×Nat×Nat->StateT SortSt Sem (Option Nat)} (hG:∀l u,G (none,l,u)=pure (some u)) :
  fw b⁻¹ A E J (forIn [0:n] (none,lo,hi) F >>= G) Q st:=by
 refine aA (bZ (eS (I:=λx c a=>a=st/\∃l u,c=(none,l,u)/\l<=u/\u<=n/\u-l<=n-x/\(∀i,i<l->B i=true)/\(∀i,u<=i->i<n->B i=false))
  (Q:=λc a=>a=st/\∃l u,c=(none,l,u)/\u<=n/\(∀i,i<u->B i=true)/\(∀i,u<=i->i<n->B i=false)) ?s ?e ⟨rfl,lo,hi,rfl,hl,hh,⋯,fl,fh⟩) ?p)
 case e=>
  rintro c a ⟨rfl,l,u,rfl,h1,h2,z,d,b⟩;exact⟨rfl,l,u,rfl,h2,λi g=>d i ⋯,b⟩
 case s=>
  rintro x c a _ hxn ⟨rfl,l,u,rfl,h1,h2,z,d,b⟩;rw[hF]
  by_cases m:l≥u
  ·rw[q07 m];exact aF ⟨rfl,l,u,rfl,h2,λi g=>d i ⋯,b⟩
  ·rw[q06 m]
   refine aA (be (l+(u-l)/2) ⋯ ?_);dsimp only
   by_cases q:B (l+(u-l)/2)=true
   ·rw[q07 q];exact aF ⟨rfl,_,u,rfl,⋯,h2,⋯,λi g=>hm i _ ⋯ ⋯ q,b⟩
   ·rw[q06 q]
    refine aF ⟨rfl,l,_,rfl,⋯,⋯,⋯,d,λi v r=>?_⟩;cases y:B i with
    |false=>rfl
    |true=>exact q0Q (hm _ i v r y) q
 case p=>
  rintro c a ⟨rfl,l,u,rfl,h2,d,b⟩;rw[hG];exact aF (h u h2 d b)
theorem AC{left:Bool}{key:Keyed}{arr:Array Keyed}{base n hint:Nat}{st:SortSt}{Q:Option Nat->SortSt->Prop}{B:Nat->Bool}(C:Cmp prog w A J a₀ kd r)(hk:kindOf st=kd)
  (hkey:key∈a₀.toList) (hi:hint<n) (hx:∀i,i<n->∃x,arr[base+i]?=some x/\x∈a₀.toList/\B i=if left then decide (r x<r key) else !decide (r key<r x))
  (hm:∀i j,i<=j->j<n->B j=true->B i=true)
  (h:∀k,k<=n->(∀i,i<k->B i=true)->(∀i,k<=i->i<n->B i=false)->Q (some k) st) :
  fw b⁻¹ A E J (hJ left key arr base n hint) Q st:=by
 have G:∀i,i<n->∀{L:Option Bool->SortSt->Prop},L (some (B i)) st->fw b⁻¹ A E J (do
   let x <- elem' arr (base+i)
   if left=true then lt' x key else do
    let y <- lt' key x
    pure (y.map (!·))) L st:=by
  intro i hi L q;obtain⟨x,e,m,b⟩:=hx i hi;refine aA (cH e ?_);cases left with
  |true=>rw[q07 rfl]at b ⊢;exact Bf C m hkey hk (by rw[<- b];exact q)
  |false=>
   rw[q06 (by decide)]at b ⊢;exact aA (Bf C hkey m hk (aF (by show L (some (!decide _)) st;rw[<- b];exact q)))
 unfold hJ;refine aA (G hint hi ?_);dsimp only
 by_cases S:B hint=true
 ·rw[q07 S]
  refine aA (bZ (eS (I:=λx c a=>a=st/\∃l o,c=(none,l,o)/\l<o/\x+1<=o/\hint+l<n/\B (hint+l)=true)
   (Q:=λc a=>a=st/\∃l o,c=(none,l,o)/\l<o/\hint+l<n/\B (hint+l)=true/\(n-hint<=o\/B (hint+o)=false)) ?s1 ?e1 ⟨rfl,0,1,rfl,⋯,⋯,⋯,S⟩) ?p1)
  case e1=>
   rintro c a ⟨rfl,l,o,rfl,h1,h2,p,g⟩;exact⟨rfl,l,o,rfl,h1,p,g,.inl ⋯⟩
  case s1=>
   rintro x c a _ O ⟨rfl,l,o,rfl,h1,h2,p,g⟩;dsimp only
   by_cases d:o≥n-hint
   ·rw[q07 d];exact aF ⟨rfl,l,o,rfl,h1,p,g,.inl d⟩
   ·rw[q06 d]
    refine aA (G (hint+o) ⋯ ?_);dsimp only
    by_cases D:B (hint+o)=true
    ·rw[D,q06 (by decide)];exact aF ⟨rfl,o,2*o+1,rfl,⋯,⋯,⋯,D⟩
    ·have v:B (hint+o)=false:=by cases z:B (hint+o)<;>simp_all
     rw[v,q07 (by decide)];exact aF ⟨rfl,l,o,rfl,h1,p,g,.inr v⟩
  case p1=>
   rintro c a ⟨rfl,l,o,rfl,h1,p,g,h5⟩;dsimp only;have T:∀i,i<hint+l+1->B i=true:=λi hi'=>hm i (hint+l) ⋯ p g;have U:∀i,hint+min o (n-hint)<=i->i<n->B i=false:=by
    intro i Y M;rcases h5 with h5 | h5
    ·omega
    ·cases z:B i with
     |false=>rfl
     |true=>exact q0Q (hm (hint+o) i ⋯ M z) (by rw[h5];decide)
   exact uk G hm ⋯ ⋯ T U h (λx l u=>ite_congr rfl (λ_=>rfl) λ_=>q0R _ (funext λo=>by cases o<;>rfl)) (λl u=>rfl)
 ·have R:B hint=false:=by cases z:B hint<;>simp_all
  rw[q06 S];refine aA (bZ (eS (I:=λx c a=>a=st/\∃l o,c=(none,l,o)/\l<o/\x+1<=o/\l<=hint/\B (hint-l)=false)
   (Q:=λc a=>a=st/\∃l o,c=(none,l,o)/\l<o/\l<=hint/\B (hint-l)=false/\(hint+1<=o\/(o<=hint/\B (hint-o)=true))) ?s2 ?e2 ⟨rfl,0,1,rfl,⋯,⋯,⋯,R⟩) ?p2)
  case e2=>
   rintro c a ⟨rfl,l,o,rfl,h1,h2,p,g⟩;exact⟨rfl,l,o,rfl,h1,p,g,.inl ⋯⟩
  case s2=>
   rintro x c a _ O ⟨rfl,l,o,rfl,h1,h2,p,g⟩;dsimp only
   by_cases d:o≥hint+1
   ·rw[q07 d];exact aF ⟨rfl,l,o,rfl,h1,p,g,.inl d⟩
   ·rw[q06 d]
    refine aA (G (hint-o) ⋯ ?_);dsimp only
    by_cases D:B (hint-o)=true
    ·rw[q07 D];exact aF ⟨rfl,l,o,rfl,h1,p,g,.inr ⟨⋯,D⟩⟩
    ·have v:B (hint-o)=false:=by cases z:B (hint-o)<;>simp_all
     rw[q06 D];exact aF ⟨rfl,o,2*o+1,rfl,⋯,⋯,⋯,v⟩
  case p2=>
   rintro c a ⟨rfl,l,o,rfl,h1,p,g,h5⟩;dsimp only;have T:∀i,i<hint+1-min o (hint+1)->B i=true:=by
    intro i Y;rcases h5 with h5 | ⟨h5,Z⟩
    ·omega
    ·exact hm i (hint-o) ⋯ ⋯ Z
   have U:∀i,hint-l<=i->i<n->B i=false:=by
    intro i Y M;cases z:B i with
    |false=>rfl
    |true=>exact q0Q (hm (hint-l) i ⋯ M z) (by rw[g];decide)
   exact uk G hm ⋯ ⋯ T U h (λx l u=>ite_congr rfl (λ_=>rfl) λ_=>q0R _ (funext λo=>by cases o<;>rfl)) (λl u=>rfl)
end
structure MI{α:Type}(le:α->α->Prop)(X Y out rx ry:List α):Prop where
 ex:∃px py,X=px++rx/\Y=py++ry/\out.Perm (px++py)
 so:out.Pairwise le
 ah:∀p,p∈out->∀q,q∈rx++ry->le p q
namespace MI
variable {α:Type}{le:α->α->Prop}{X Y out rx ry:List α}
theorem start(X Y:List α):MI le X Y [] X Y:=⟨⟨[],[],rfl,rfl,List.Perm.refl _⟩,.nil,λp h=>nomatch h⟩
theorem swap(h:MI le X Y out rx ry):MI le Y X out ry rx:=by
 obtain⟨⟨d,c,j,i,g⟩,s,a⟩:=h;exact⟨⟨c,d,i,j,g.trans List.perm_append_comm⟩,s,λp e q b=>a p e q (by rw[KR]at b ⊢;exact b.symm)⟩
theorem takeX{c rx':List α}(h:MI le X Y out (c++rx') ry)(sX:X.Pairwise le)(hc:∀p,p∈c->∀q,q∈ry->le p q):MI le X Y (out++c) rx' ry:=by
 obtain⟨⟨d,i,e,k,j⟩,s,a⟩:=h;rw[e]at sX;have g:=(List.pairwise_append.mp sX).2.1;have b:=List.pairwise_append.mp g;refine⟨⟨d++c,i,by rw[e,Ld],k,?_⟩,List.pairwise_append.mpr ⟨s,b.1,λp hp q hq=>a p hp q (by simp[hq])⟩,λp hp q hq=>?_⟩
 ·refine(j.append_right c).trans ?_
  rw[Ld,Ld];exact List.perm_append_comm.append_left d
 ·rcases KR.mp hp with hp | hp
  ·exact a p hp q (by rcases KR.mp hq with hq | hq<;>simp[hq])
  ·rcases KR.mp hq with hq | hq
   ·exact b.2.2 p hp q hq
   ·exact hc p hp q hq
theorem takeY{c ry':List α}(h:MI le X Y out rx (c++ry'))(sY:Y.Pairwise le)(hc:∀p,p∈c->∀q,q∈rx->le p q):MI le X Y (out++c) rx ry':=
 (h.swap.takeX sY hc).swap
theorem oneX{x:α}{rx':List α}(h:MI le X Y out (x::rx') ry)(sX:X.Pairwise le)(hc:∀q,q∈ry->le x q):MI le X Y (out++[x]) rx' ry:=
 takeX (c:=[x]) h sX λp hp q hq=>by rw[KF]at hp;subst hp;exact hc q hq
theorem oneY{y:α}{ry':List α}(h:MI le X Y out rx (y::ry'))(sY:Y.Pairwise le)(hc:∀q,q∈rx->le y q):MI le X Y (out++[y]) rx ry':=
 takeY (c:=[y]) h sY λp hp q hq=>by rw[KF]at hp;subst hp;exact hc q hq
theorem len(h:MI le X Y out rx ry):out.length+rx.length+ry.length=X.length+Y.length:=by
 obtain⟨⟨px,py,c,b,a⟩,_,_⟩:=h;have:=a.length_eq;rw[c,b];simp at this ⊢;omega
theorem fin{l:List α}(h:MI le X Y out rx ry)(hp:l.Perm (rx++ry))(hs:l.Pairwise le):(out++l).Pairwise le/\(out++l).Perm (X++Y):=by
 obtain⟨⟨b,py,e,d,c⟩,s,a⟩:=h;refine⟨List.pairwise_append.mpr ⟨s,hs,λp h1 q h2=>a p h1 q (hp.mem_iff.mp h2)⟩,?_⟩;rw[e,d];refine(c.append hp).trans ?_;rw[Ld,Ld];refine List.Perm.append_left b ?_;rw[<- Ld,<- Ld];exact List.perm_append_comm.append_right ry
theorem finX(h:MI le X Y out rx [])(sX:X.Pairwise le):(out++rx).Pairwise le/\(out++rx).Perm (X++Y):=by
 obtain⟨px,py,a,_,_⟩:=h.ex;exact h.fin (by rw[Lc]) (by rw[a]at sX;exact(List.pairwise_append.mp sX).2.1)
theorem finY(h:MI le X Y out [] ry)(sY:Y.Pairwise le):(out++ry).Pairwise le/\(out++ry).Perm (X++Y):=by
 obtain⟨px,py,_,a,_⟩:=h.ex;exact h.fin (by rw[Lq]) (by rw[a]at sY;exact(List.pairwise_append.mp sY).2.1)
theorem lastX{x:α}(h:MI le X Y out [x] ry)(sY:Y.Pairwise le)(hx:∀q,q∈ry->le q x):(out++(ry++[x])).Pairwise le/\(out++(ry++[x])).Perm (X++Y):=by
 obtain⟨px,py,_,c,_⟩:=h.ex;refine h.fin List.perm_append_comm ?_;rw[c]at sY;exact List.pairwise_append.mpr ⟨(List.pairwise_append.mp sY).2.1,List.pairwise_singleton _ _,λp b q a=>by rw[KF]at a;subst a;exact hx p b⟩
end MI
theorem yf{α:Type}(a:Array α)(i:Nat):(a.extract i a.size).toList=a.toList.drop i:=by
 rw[Array.toList_extract];simp[List.extract];exact q0F (by simp)
theorem mX{α:Type}(a:Array α)(i k:Nat):(a.extract i (i+k)).toList=(a.toList.drop i).take k:=by
 rw[Array.toList_extract];simp[List.extract]
theorem fW{α:Type}(a:Array α){i:Nat}(h:i<a.toList.length):∃x,a[i]?=some x/\a.toList.drop i=x::a.toList.drop (i+1)/\x∈a.toList:=by
 refine⟨a.toList[i],?_,q0T h,KM h⟩;rw[<- q0G,Kz h]
def SG(st st':SortSt):Prop:=kindOf st'=kindOf st/\arrOf st'=arrOf st/\pendingOf st'=pendingOf st/\failedOf st'=failedOf st
theorem SG.refl(st:SortSt):SG st st:=⟨rfl,rfl,rfl,rfl⟩
abbrev PA:=Array Keyed
abbrev SM:=StateT SortSt Sem
abbrev gO(r:Keyed->Nat):Keyed->Keyed->Prop:=λp q=>r p<=r q
def vy:PA->PA->SM PA:=sortPriv% PySem.Builtin.mergeLo
def k_:Nat->SM Unit:=sortPriv% PySem.Builtin.setMinGallop
abbrev L1:=Option PA×PA×Nat×Nat×Nat×Nat
abbrev GF:=Option PA×PA×Nat×Nat×Nat×Nat×Nat
abbrev L0:=Option PA×PA×Nat×Nat×Nat
abbrev At(a b:PA)(o:PA)(i j:Nat):PA:=o++a.extract i a.size++b.extract j b.size
abbrev Fm(a b:PA)(o:PA)(i j:Nat):PA:=o++b.extract j b.size++a.extract i a.size
def Ht(a b:PA)(g:Nat)(o:PA)(i j m n:Nat):SM (ForInStep L1):=
 elem' b j >>= λy=>elem' a i >>= λx=>lt' y x >>= λt=>match t with
 |some t=>if t=true then elem' b j >>= λy=>
   if(j+1==b.size)=true then pure (.done (some (At a b (o.push y) i (j+1)),o.push y,i,j+1,0,n+1))
   else if n+1≥g then pure (.done (none,o.push y,i,j+1,0,n+1)) else pure (.yield (none,o.push y,i,j+1,0,n+1))
  else elem' a i >>= λx=>
   if(i+1+1==a.size)=true then pure (.done (some (Fm a b (o.push x) (i+1) j),o.push x,i+1,j,m+1,0))
   else if m+1≥g then pure (.done (none,o.push x,i+1,j,m+1,0)) else pure (.yield (none,o.push x,i+1,j,m+1,0))
 |_=>pure (.done (some (At a b o i j),o,i,j,m,n))
def GJ(a b:PA)(o:PA)(i j g m n:Nat):SM (ForInStep GF):=
 elem' a i >>= λx=>if(i+1+1==a.size)=true then pure (.done (some (Fm a b (o.push x) (i+1) j),o.push x,i+1,j,g,m,n))
  else if(decide (m<7)&&decide (n<7))=true then pure (.done (none,o.push x,i+1,j,g,m,n)) else pure (.yield (none,o.push x,i+1,j,g,m,n))
def GT(a b:PA)(o:PA)(i j g m n:Nat):SM (ForInStep GF):=
 elem' b j >>= λy=>if(j+1==b.size)=true then pure (.done (some (At a b (o.push y) i (j+1)),o.push y,i,j+1,g,m,n))
  else elem' a i >>= λx=>hJ true x b (j+1) (b.size-(j+1)) 0 >>= λt=>match t with
  |some k=>if k>0 then
    if(j+1+k==b.size)=true then pure (.done (some (At a b (o.push y++b.extract (j+1) (j+1+k)) i (j+1+k)),o.push y++b.extract (j+1) (j+1+k),i,j+1+k,g,m,k))
    else GJ a b (o.push y++b.extract (j+1) (j+1+k)) i (j+1+k) g m k
   else GJ a b (o.push y) i (j+1) g m k
  |_=>pure (.done (some (At a b (o.push y) i (j+1)),o.push y,i,j+1,g,m,n))
def Ga(a b:PA)(o:PA)(i j g m n:Nat):SM (ForInStep GF):=
 k_ g >>= λ_=>elem' b j >>= λy=>hJ false y a i (a.size-i) 0 >>= λt=>match t with
  |some k=>if k>0 then
    if(i+k+1==a.size)=true then pure (.done (some (Fm a b (o++a.extract i (i+k)) (i+k) j),o++a.extract i (i+k),i+k,j,g,k,n))
    else if(i+k==a.size)=true then pure (.done (some (At a b (o++a.extract i (i+k)) (i+k) j),o++a.extract i (i+k),i+k,j,g,k,n))
    else GT a b (o++a.extract i (i+k)) (i+k) j g k n
   else GT a b o i j g k n
  |_=>pure (.done (some (At a b o i j),o,i,j,g,m,n))
def G2(a b:PA)(s:L0):SM (ForInStep L0):=
 forIn [0:a.size+b.size] ((none,s.2.1,s.2.2.1,s.2.2.2.1,0,0):L1) (λ_ t=>Ht a b s.2.2.2.2 t.2.1 t.2.2.1 t.2.2.2.1 t.2.2.2.2.1 t.2.2.2.2.2) >>= λt=>
 match t.1 with
 |some z=>pure (.done (some z,t.2.1,t.2.2.1,t.2.2.2.1,s.2.2.2.2))
 |none=>liftM (rule "list.sort.gallop") >>= λ_=>
  forIn [0:a.size+b.size] ((none,t.2.1,t.2.2.1,t.2.2.2.1,s.2.2.2.2+1,t.2.2.2.2.1,t.2.2.2.2.2):GF) (λ_ u=>
   if u.2.2.2.2.1>1 then Ga a b u.2.1 u.2.2.1 u.2.2.2.1 (u.2.2.2.2.1-1) u.2.2.2.2.2.1 u.2.2.2.2.2.2 else Ga a b u.2.1 u.2.2.1 u.2.2.2.1 u.2.2.2.2.1 u.2.2.2.2.2.1 u.2.2.2.2.2.2) >>= λu=>
  match u.1 with
  |some z=>pure (.done (some z,u.2.1,u.2.2.1,u.2.2.2.1,u.2.2.2.2.1))
  |none=>k_ (u.2.2.2.2.1+1) >>= λ_=>pure (.yield (none,u.2.1,u.2.2.1,u.2.2.2.1,u.2.2.2.2.1+1))
def D5(a b:PA):SM PA:=
 liftM (rule "list.sort.merge-lo") >>= λ_=>elem' b 0 >>= λy=>
 if((1:Nat)==b.size)=true then pure (At a b #[y] 0 1) else if((0:Nat)+1==a.size)=true then pure (Fm a b #[y] 0 1) else
 get >>= λst=>forIn [0:a.size+b.size] ((none,#[y],0,1,gallopOf st):L0) (λ_ s=>G2 a b s) >>= λs=>
 match s.1 with
 |some z=>pure z
 |none=>liftM (unsupported "internal:list.sort.merge-bound":Sem PA)
theorem aV{α β:Type}{m m':SM α}{f g:α->SM β}(e:m=m')(h:∀x,f x=g x):(m >>= f)=(m' >>= g):=by rw[e,funext h]
theorem gR{β:Type}{n:Nat}{c:β}{f g:Nat->β->SM (ForInStep β)}(h:∀x s,f x s=g x s):(forIn [0:n] c f:SM β)=forIn [0:n] c g:=by
 rw[show f=g from funext λx=>funext λs=>h x s]
theorem dY{α:Type}{c:Prop}[Decidable c]{a b a' b':α}(h:a=a')(k:b=b'):(if c then a else b)=if c then a' else b':=by rw[h,k]
theorem xh(a b:PA):vy a b=D5 a b:=by
 refine aV rfl λ_=>aV rfl λy=>dY rfl (dY rfl (aV rfl λst=>aV (gR λ_ s=>?_) λs=>?_))
 ·refine aV (gR λ_ t=>?_) λt=>?_
  ·refine aV rfl λy=>aV rfl λx=>aV rfl λt=>?_
   rfl
  ·obtain⟨z,t⟩:=t
   cases z with
   |some z=>rfl
   |none=>
    refine aV rfl λ_=>aV (gR λ_ u=>dY ?_ ?_) λu=>?_
    ·rfl
    ·rfl
    ·obtain⟨z,u⟩:=u
     cases z<;>rfl
 ·obtain⟨z,s⟩:=s
  cases z<;>rfl
section
variable {prog:LH}{w:LK}{A:LJ}{E:Lx}{J:Shared->Prop}{a₀:Array Keyed}{kd:SortKind}{r:Keyed->Nat}
def bt(r:Keyed->Nat)(left:Bool)(key p:Keyed):Prop:=if left=true then r p<r key else r p<=r key
noncomputable instance (left:Bool)(key p:Keyed):Decidable (bt r left key p):=by unfold bt;infer_instance
theorem AT{arr:PA}{base n t:Nat}(hn:base+n<=arr.toList.length)(ht:t<n):arr[base+t]?=((arr.toList.drop base).take n)[t]?:=by
 rw[List.getElem?_take,q07 ht,List.getElem?_drop,q0G]
theorem qG{left:Bool}{key:Keyed}{arr:PA}{base n hint:Nat}{st:SortSt}{Q:Option Nat->SortSt->Prop}(C:Cmp prog w A J a₀ kd r)(hk:kindOf st=kd)(hkey:key∈a₀.toList)
  (hi:hint<n) (hn:base+n<=arr.toList.length) (mem:∀p,p∈(arr.toList.drop base).take n->p∈a₀.toList) (srt:((arr.toList.drop base).take n).Pairwise (gO r))
  (h:∀k,k<=n->(∀p,p∈((arr.toList.drop base).take n).take k->bt r left key p)->(∀p,p∈((arr.toList.drop base).take n).drop k->¬ bt r left key p)->Q (some k) st) :
  fw b⁻¹ A E J (hJ left key arr base n hint) Q st:=by
 generalize hS:(arr.toList.drop base).take n=S at *;have lS:S.length=n:=by rw[<- hS];simp at hn ⊢;omega
 have at':∀t,t<n->arr[base+t]?=S[t]?:=λt ht=>by rw[<- hS];exact AT hn ht
 refine AC (B:=λt=>match S[t]? with | some x=>decide (bt r left key x) | none=>false) C hk hkey hi (λt ht=>?_) (λi j hij hj hB=>?_) λk hk' f g=>h k hk' (λp hp=>?_) λp hp=>?_
 ·have e:S[t]?=some S[t]:=Kz ⋯
  refine⟨S[t],by rw[at' t ht,e],mem _ (KM _),?_⟩;rw[e];dsimp only
  unfold bt;cases left with
  |true=>simp
  |false=>
   simp only[q0a,if_false]
   by_cases q:r key<r S[t]
   ·rw[q09 q,q08 ⋯];rfl
   ·rw[q08 q,q09 ⋯];rfl
 ·have e1:S[i]?=some S[i]:=Kz ⋯
  have e2:S[j]?=some S[j]:=Kz ⋯;rw[e2]at hB;rw[e1];dsimp only at hB ⊢
  have hle:r S[i]<=r S[j]:=by
   rcases Nat.lt_or_ge i j with q | q
   ·exact(List.pairwise_iff_getElem.mp srt) i j ⋯ ⋯ q
   ·have:i=j:=by omega
    subst this;exact K4 _
  have hB':=of_decide_eq_true hB;refine q09 ?_;unfold bt at hB' ⊢
  split at hB'<;>rename_i hc
  ·rw[q07 hc];omega
  ·rw[q06 hc];omega
 ·obtain⟨t,ht,e⟩:=List.mem_iff_getElem.mp hp
  rw[Lg]at ht;rw[List.getElem_take]at e;have:=f t ⋯;rw[Kz ⋯]at this;rw[<- e];exact of_decide_eq_true this
 ·obtain⟨t,ht,e⟩:=List.mem_iff_getElem.mp hp
  rw[Lh]at ht;rw[List.getElem_drop]at e;have:=g (k+t) ⋯ ⋯;rw[Kz ⋯]at this;rw[<- e];exact of_decide_eq_false this
theorem lO{left:Bool}{key:Keyed}(h:¬ bt r left key p):if left=true then r key<=r p else r key<r p:=by
 unfold bt at h
 split at h<;>rename_i hc
 ·rw[q07 hc];omega
 ·rw[q06 hc];omega
structure MC(prog:LH)(w:LK)(A:LJ)(J:Shared->Prop)(a₀:PA)(kd:SortKind)(r:Keyed->Nat)(a b:PA):Prop where
 C:Cmp prog w A J a₀ kd r
 ha:∀p,p∈a.toList->p∈a₀.toList
 hb:∀p,p∈b.toList->p∈a₀.toList
 sa:a.toList.Pairwise (gO r)
 sb:b.toList.Pairwise (gO r)
 hl:∀x,a[a.toList.length-1]?=some x->∀q,q∈b.toList->r q<=r x
def iU(r:Keyed->Nat)(a b z:PA):Prop:=z.toList.Pairwise (gO r)/\z.toList.Perm (a.toList++b.toList)
structure jt(r:Keyed->Nat)(a b o:PA)(i j:Nat):Prop where
 mi:MI (gO r) a.toList b.toList o.toList (a.toList.drop i) (b.toList.drop j)
 hi:i+1<a.toList.length
 hj:j<b.toList.length
def PG(r:Keyed->Nat)(a b:PA)(k:Nat)(z:Option PA)(o:PA)(i j:Nat):Prop:=match z with
 |some z=>iU r a b z
 |none=>jt r a b o i j/\k<=o.size
variable {a b:PA}
theorem jt.lt(h:jt r a b o i j):o.size<a.size+b.size:=by
 have:=h.mi.len;have h1:=h.hi;have h2:=h.hj
 simp at this h1 h2;omega
theorem F_(m:MC prog w A J a₀ kd r a b){o:PA}{i j:Nat}(h:MI (gO r) a.toList b.toList o.toList (a.toList.drop i) (b.toList.drop j))(hj:(j==b.size)=true\/(i==a.size)=true):iU r a b (At a b o i j):=by
 unfold iU;rw[show(At a b o i j).toList=o.toList++(a.toList.drop i++b.toList.drop j) by simp only[At,q0V,yf,Ld]];rcases hj with hj | hj
 ·have e:b.toList.drop j=[]:=List.drop_eq_nil_of_le (by have:=eq_of_beq hj;simp;omega)
  rw[e]at h ⊢;rw[Lc];exact h.finX m.sa
 ·have e:a.toList.drop i=[]:=List.drop_eq_nil_of_le (by have:=eq_of_beq hj;simp;omega)
  rw[e]at h ⊢;rw[Lq];exact h.finY m.sb
theorem GD(m:MC prog w A J a₀ kd r a b){o:PA}{i j:Nat}(h:MI (gO r) a.toList b.toList o.toList (a.toList.drop i) (b.toList.drop j))(hi:(i+1==a.size)=true):iU r a b (Fm a b o i j):=by
 have e:=eq_of_beq hi;obtain⟨x,k,d,e3⟩:=fW a (i:=i) (by simp;omega);have c:a.toList.drop (i+1)=[]:=List.drop_eq_nil_of_le (by simp;omega);unfold iU;rw[show(Fm a b o i j).toList=o.toList++(b.toList.drop j++a.toList.drop i) by simp only[Fm,q0V,yf,Ld],d,c];rw[d,c]at h;refine h.lastX m.sb λq g=>m.hl x ?_ q (q0I g);rw[show a.toList.length-1=i by simp;omega];exact k
theorem nh{l:List Keyed}(s:l.Pairwise (gO r)){i:Nat}{y:Keyed}(e:l.drop i=y::l.drop (i+1)):∀q,q∈l.drop i->r y<=r q:=by
 intro q hq;have:=s.sublist (List.drop_sublist i l);rw[e]at this hq;rcases KU.mp hq with rfl | hq
 ·exact K4 _
 ·exact(List.pairwise_cons.mp this).1 q hq
theorem cU{x y:Nat}(h:¬ (x==y)=true):x≠y:=λe=>h (by rw[e];exact beq_self_eq_true y)
theorem F4(m:MC prog w A J a₀ kd r a b){st:SortSt}(hk:kindOf st=kd){o:PA}{i j g u v:Nat}(h:jt r a b o i j) :
  fw b⁻¹ A E J (Ht a b g o i j u v) (λt st'=>st'=st/\match t with
   | .done s=>PG r a b (o.size+1) s.1 s.2.1 s.2.2.1 s.2.2.2.1
   | .yield s=>s.1=none/\PG r a b (o.size+1) s.1 s.2.1 s.2.2.1 s.2.2.2.1) st:=by
 unfold Ht;obtain⟨y,p,n,D⟩:=fW b h.hj;obtain⟨x,B,z,G⟩:=fW a (i:=i) (by have:=h.hi;omega);refine aA (cH p (aA (cH B (aA (Bf m.C (m.hb _ D) (m.ha _ G) hk ?_)))));dsimp only;have mi:=h.mi
 by_cases l:r y<r x
 ·rw[q07 (q09 l)]
  refine aA (cH p ?_);rw[n]at mi;have c:MI (gO r) a.toList b.toList (o.push y).toList (a.toList.drop i) (b.toList.drop (j+1)):=by
   rw[Array.toList_push];exact mi.oneY m.sb λq k=>by have:=nh m.sa z q k;show r y<=r q;omega
  by_cases d:(j+1==b.size)=true
  ·rw[q07 d];exact aF ⟨rfl,F_ m c (.inl d)⟩
  ·rw[q06 d]
   have e:jt r a b (o.push y) i (j+1):=⟨c,h.hi,by have:=cU d;have:=h.hj;simp at this ⊢;omega⟩
   split
   ·exact aF ⟨rfl,e,by simp⟩
   ·exact aF ⟨rfl,rfl,e,by simp⟩
 ·rw[q06 (by simpa using l)]
  refine aA (cH B ?_);rw[z]at mi;have c:MI (gO r) a.toList b.toList (o.push x).toList (a.toList.drop (i+1)) (b.toList.drop j):=by
   rw[Array.toList_push];exact mi.oneX m.sa λq k=>by have:=nh m.sb n q k;show r x<=r q;omega
  by_cases d:(i+1+1==a.size)=true
  ·rw[q07 d];exact aF ⟨rfl,GD m c d⟩
  ·rw[q06 d]
   have e:jt r a b (o.push x) (i+1) j:=⟨c,by have:=cU d;have:=h.hi;simp at this ⊢;omega,h.hj⟩
   split
   ·exact aF ⟨rfl,e,by simp⟩
   ·exact aF ⟨rfl,rfl,e,by simp⟩
theorem nk{st:SortSt}{Q:Unit->SortSt->Prop}(h:∀st',SG st st'->Q () st'):fw b⁻¹ A E J (k_ g) Q st:=by
 unfold k_;exact dk (h _ ⟨rfl,rfl,rfl,rfl⟩)
theorem xW{l:List Keyed}(i:Nat):(l.drop i).take (l.length-i)=l.drop i:=q0F (by simp)
theorem Ec(m:MC prog w A J a₀ kd r a b){st:SortSt}{o:PA}{i j g u v k:Nat}(h:jt r a b o i j)(hk:k<=o.size)(hx:∀x,a[i]?=some x->∀q,q∈b.toList.drop j->r x<=r q) :
  fw b⁻¹ A E J (GJ a b o i j g u v) (λt st'=>st'=st/\match t with
   | .done s=>PG r a b (k+1) s.1 s.2.1 s.2.2.1 s.2.2.2.1
   | .yield s=>s.1=none/\PG r a b (k+1) s.1 s.2.1 s.2.2.1 s.2.2.2.1) st:=by
 unfold GJ;obtain⟨x,l,n,a3⟩:=fW a (i:=i) (by have:=h.hi;omega);refine aA (cH l ?_);have mi:=h.mi;rw[n]at mi;have c:MI (gO r) a.toList b.toList (o.push x).toList (a.toList.drop (i+1)) (b.toList.drop j):=by
  rw[Array.toList_push];exact mi.oneX m.sa (hx x l)
 by_cases d:(i+1+1==a.size)=true
 ·rw[q07 d];exact aF ⟨rfl,GD m c d⟩
 ·rw[q06 d]
  have e:jt r a b (o.push x) (i+1) j:=⟨c,by have:=cU d;have:=h.hi;simp at this ⊢;omega,h.hj⟩
  split
  ·exact aF ⟨rfl,e,by simp;omega⟩
  ·exact aF ⟨rfl,rfl,e,by simp;omega⟩
theorem jD(l:List Keyed)(i k:Nat):l.drop i=(l.drop i).take k++l.drop (i+k):=by
 rw[<- List.drop_drop];exact(List.take_append_drop k _).symm
theorem Eh(m:MC prog w A J a₀ kd r a b){st:SortSt}(hk:kindOf st=kd){o:PA}{i j g u v k:Nat}(h:jt r a b o i j)(hz:k<=o.size)(hy:∀y,b[j]?=some y->∀q,q∈a.toList.drop i->r y<=r q) :
  fw b⁻¹ A E J (GT a b o i j g u v) (λt st'=>st'=st/\match t with
   | .done s=>PG r a b (k+1) s.1 s.2.1 s.2.2.1 s.2.2.2.1
   | .yield s=>s.1=none/\PG r a b (k+1) s.1 s.2.1 s.2.2.1 s.2.2.2.1) st:=by
 unfold GT;obtain⟨y,T,b2,b3⟩:=fW b h.hj;obtain⟨x,M,a2,a3⟩:=fW a (i:=i) (by have:=h.hi;omega);refine aA (cH T ?_);have mi:=h.mi;rw[b2]at mi;have c:MI (gO r) a.toList b.toList (o.push y).toList (a.toList.drop i) (b.toList.drop (j+1)):=by
  rw[Array.toList_push];exact mi.oneY m.sb (hy y T)
 by_cases G:(j+1==b.size)=true
 ·rw[q07 G];exact aF ⟨rfl,F_ m c (.inl G)⟩
 ·rw[q06 G]
  have hj:=h.hj;have hj1:j+1<b.size:=by have:=cU G;simp at hj;omega
  have I:((b.toList.drop (j+1)).take (b.size-(j+1)))=b.toList.drop (j+1):=by have:=xW (l:=b.toList) (j+1);simpa using this
  refine aA (cH M (aA (qG m.C hk (m.ha _ a3) ⋯ (by simp;omega) (by rw[I];exact λp L=>m.hb p (q0I L)) (by rw[I];exact m.sb.sublist (List.drop_sublist _ _)) λe he S f2=>?_)));rw[I]at S f2;dsimp only;have Y:∀p,p∈(b.toList.drop (j+1)).take e->∀q,q∈a.toList.drop i->r p<=r q:=λp L q n=>by
   have O:r p<r x:=S p L;have:=nh m.sa a2 q n;omega
  have R:∀q,q∈b.toList.drop (j+1+e)->r x<=r q:=λq n=>by
   have O:=lO (f2 q (by rw[List.drop_drop];exact n));exact O
  by_cases B:e>0
  ·rw[q07 B]
   have z:MI (gO r) a.toList b.toList (o.push y++b.extract (j+1) (j+1+e)).toList (a.toList.drop i) (b.toList.drop (j+1+e)):=by
    rw[q0V,mX];rw[jD b.toList (j+1) e]at c;exact c.takeY m.sb Y
   by_cases d:(j+1+e==b.size)=true
   ·rw[q07 d];exact aF ⟨rfl,F_ m z (.inl d)⟩
   ·rw[q06 d]
    exact Ec m ⟨z,h.hi,by have:=cU d;simp;omega⟩ (by simp;omega) λU D q n=>by rw[M]at D;cases D;exact R q n
  ·rw[q06 B]
   have Z:e=0:=by omega
   subst Z;exact Ec m ⟨c,h.hi,by simp;omega⟩ (by simp;omega) λU D q n=>by rw[M]at D;cases D;exact R q n
theorem F'(m:MC prog w A J a₀ kd r a b){st:SortSt}(hk:kindOf st=kd){o:PA}{i j g u v:Nat}(h:jt r a b o i j) :
  fw b⁻¹ A E J (Ga a b o i j g u v) (λt st'=>SG st st'/\match t with
   | .done s=>PG r a b (o.size+1) s.1 s.2.1 s.2.2.1 s.2.2.2.1
   | .yield s=>s.1=none/\PG r a b (o.size+1) s.1 s.2.1 s.2.2.1 s.2.2.2.1) st:=by
 unfold Ga;refine aA (nk λst' z=>?_);have x:kindOf st'=kd:=z.1.trans hk;obtain⟨y,M,b2,b3⟩:=fW b h.hj;have hi:=h.hi;have hi0:i+1<a.size:=by simpa using hi
 have I:((a.toList.drop i).take (a.size-i))=a.toList.drop i:=by have:=xW (l:=a.toList) i;simpa using this
 refine aA (cH M (aA (qG m.C x (m.hb _ b3) ⋯ (by simp;omega) (by rw[I];exact λp L=>m.ha p (q0I L)) (by rw[I];exact m.sa.sublist (List.drop_sublist _ _)) λe he R f2=>?_)));rw[I]at R f2;dsimp only;have Y:∀p,p∈(a.toList.drop i).take e->∀q,q∈b.toList.drop j->r p<=r q:=λp L q n=>by
  have U:r p<=r y:=R p L;have:=nh m.sb b2 q n;omega
 have O:∀q,q∈a.toList.drop (i+e)->r y<=r q:=λq n=>by
  have U:r y<r q:=lO (f2 q (by rw[List.drop_drop];exact n));omega
 by_cases B:e>0
 ·rw[q07 B]
  have d:MI (gO r) a.toList b.toList (o++a.extract i (i+e)).toList (a.toList.drop (i+e)) (b.toList.drop j):=by
   rw[q0V,mX];have mi:=h.mi;rw[jD a.toList i e]at mi;exact mi.takeX m.sa Y
  by_cases G:(i+e+1==a.size)=true
  ·rw[q07 G];exact aF ⟨z,GD m d G⟩
  ·rw[q06 G]
   by_cases c:(i+e==a.size)=true
   ·rw[q07 c];exact aF ⟨z,F_ m d (.inr c)⟩
   ·rw[q06 c]
    refine bZ (Eh (k:=o.size) m x ⟨d,by have:=cU G;have:=cU c;simp;omega,h.hj⟩ (by simp) λS D q n=>by rw[M]at D;cases D;exact O q n) λt T q=>⟨by rw[q.1];exact z,q.2⟩
 ·rw[q06 B]
  have Z:e=0:=by omega
  subst Z;exact bZ (Eh (k:=o.size) m x h (K4 _) λS D q n=>by rw[M]at D;cases D;exact O q n) λt T q=>⟨by rw[q.1];exact z,q.2⟩
theorem SG.trans(h:SG x y)(k:SG y z):SG x z:=⟨k.1.trans h.1,k.2.1.trans h.2.1,k.2.2.1.trans h.2.2.1,k.2.2.2.trans h.2.2.2⟩
theorem F6(m:MC prog w A J a₀ kd r a b){st:SortSt}(hk:kindOf st=kd){s:L0}(h:jt r a b s.2.1 s.2.2.1 s.2.2.2.1) :
  fw b⁻¹ A E J (G2 a b s) (λt st'=>SG st st'/\match t with
   | .done u=>∃z,u.1=some z/\iU r a b z
   | .yield u=>u.1=none/\jt r a b u.2.1 u.2.2.1 u.2.2.2.1/\s.2.1.size+1<=u.2.1.size) st:=by
 unfold G2;refine aA (bZ (eS (I:=λx c st'=>st'=st/\c.1=none/\jt r a b c.2.1 c.2.2.1 c.2.2.2.1/\s.2.1.size+x<=c.2.1.size)
  (Q:=λc st'=>st'=st/\PG r a b (s.2.1.size+1) c.1 c.2.1 c.2.2.1 c.2.2.2.1) ?s1 ?e1 ⟨rfl,rfl,h,K4 _⟩) ?p1)
 case e1=>
  rintro c st' ⟨rfl,D,k,C⟩;have:=k.lt;omega
 case s1=>
  rintro x c st' _ C ⟨rfl,D,k,G⟩;refine bZ (F4 m hk k) λt d q=>?_;obtain⟨rfl,q⟩:=q;cases t with
  |done u=>
   refine⟨rfl,?_⟩;dsimp only at q
   revert q;unfold PG;cases u.1 with
   |some z=>exact id
   |none=>exact λq=>⟨q.1,by have:=q.2;omega⟩
  |yield u=>
   obtain⟨y,p⟩:=q;rw[y]at p;exact⟨rfl,y,p.1,by have:=p.2;omega⟩
 case p1=>
  rintro⟨z,o,i,j,u,v⟩ st' ⟨rfl,q⟩;cases z with
  |some z=>exact aF ⟨SG.refl _,z,rfl,q⟩
  |none=>
   obtain⟨k,G⟩:=q;dsimp only;refine aA (jL λ_ L=>wpAny_rule ⟨L,?_⟩);refine aA (bZ (eS (I:=λx c d=>SG st' d/\c.1=none/\jt r a b c.2.1 c.2.2.1 c.2.2.2.1/\s.2.1.size+1<=c.2.1.size)
    (Q:=λc d=>SG st' d/\PG r a b (s.2.1.size+1) c.1 c.2.1 c.2.2.1 c.2.2.2.1) ?s2 ?e2 ⟨SG.refl _,rfl,k,G⟩) ?p2)
   case e2=>
    rintro c d ⟨n,D,k,C⟩;exact⟨n,by rw[D];exact⟨k,C⟩⟩
   case s2=>
    rintro x c d _ C ⟨n,D,k,G⟩;have B:∀g,fw b⁻¹ A E J (Ga a b c.2.1 c.2.2.1 c.2.2.2.1 g c.2.2.2.2.2.1 c.2.2.2.2.2.2) (λt e=>match t with
      | .done c'=>SG st' e/\PG r a b (s.2.1.size+1) c'.1 c'.2.1 c'.2.2.1 c'.2.2.2.1
      | .yield c'=>SG st' e/\c'.1=none/\jt r a b c'.2.1 c'.2.2.1 c'.2.2.2.1/\s.2.1.size+1<=c'.2.1.size) d:=by
     intro g;refine bZ (F' m (n.1.trans hk) k) λt e q=>?_;obtain⟨l,q⟩:=q;cases t with
     |done u=>
      refine⟨n.trans l,?_⟩;dsimp only at q
      revert q;unfold PG;cases u.1 with
      |some z=>exact id
      |none=>exact λq=>⟨q.1,by have:=q.2;omega⟩
     |yield u=>
      obtain⟨y,p⟩:=q;rw[y]at p;exact⟨n.trans l,y,p.1,by have:=p.2;omega⟩
    split
    ·exact bZ (B _) λt e q=>by cases t<;>exact q
    ·exact bZ (B _) λt e q=>by cases t<;>exact q
   case p2=>
    rintro⟨z,o2,i2,j2,g2,u2,v2⟩ d ⟨n,q⟩;cases z with
    |some z=>exact aF ⟨n,z,rfl,q⟩
    |none=>exact aA (nk λe l=>aF ⟨n.trans l,rfl,q.1,q.2⟩)
theorem yI(m:MC prog w A J a₀ kd r a b){st:SortSt}(hk:kindOf st=kd){Q:PA->SortSt->Prop}(h0:∀y,b[0]?=some y->∀q,q∈a.toList->r y<=r q)
  (na:0<a.toList.length) (nb:0<b.toList.length) (h:∀l st',SG st st'->iU r a b l->Q l st'):fw b⁻¹ A E J (vy a b) Q st:=by
 rw[xh];unfold D5
 obtain⟨y,B,v,b3⟩:=fW b nb;refine aA (jL λs j=>wpAny_rule ⟨j,aA (cH B ?_)⟩);have n:MI (gO r) a.toList b.toList (#[y]:PA).toList (a.toList.drop 0) (b.toList.drop 1):=by
  have:=MI.start (le:=gO r) a.toList b.toList;rw[show b.toList=y::b.toList.drop 1 from v]at this;have h2:=MI.oneY (by rw[show b.toList=y::b.toList.drop 1 from v];exact this) m.sb (h0 y B);exact h2
 by_cases k:((1:Nat)==b.size)=true
 ·rw[q07 k];exact aF (h _ _ (SG.refl _) (F_ m n (.inl k)))
 ·rw[q06 k]
  by_cases d:((0:Nat)+1==a.size)=true
  ·rw[q07 d];exact aF (h _ _ (SG.refl _) (GD m n d))
  ·rw[q06 d]
   refine aA (gN ?_);refine aA (bZ (eS (I:=λx c st'=>SG st st'/\c.1=none/\jt r a b c.2.1 c.2.2.1 c.2.2.2.1/\x+1<=c.2.1.size)
    (Q:=λc st'=>SG st st'/\∃z,c.1=some z/\iU r a b z) ?s ?e ⟨SG.refl _,rfl,⟨n,by have:=cU d;simp at na ⊢;omega,by have:=cU k;simp at nb ⊢;omega⟩,by simp⟩) ?p)
   case e=>
    rintro c st' ⟨_,D,o,C⟩;have:=o.lt;omega
   case s=>
    rintro x c st' _ C ⟨i,D,o,hz⟩;refine bZ (F6 m (i.1.trans hk) o) λt st2 q=>?_;obtain⟨g,q⟩:=q;cases t with
    |done u=>exact⟨i.trans g,q⟩
    |yield u=>exact⟨i.trans g,q.1,q.2.1,by have:=q.2.2;omega⟩
   case p=>
    rintro⟨z,u⟩ st' ⟨i,z',e,q⟩;dsimp only at e;subst e;exact aF (h _ _ i q)
end
def vq:PA->PA->SM PA:=sortPriv% PySem.Builtin.mergeHi
abbrev H1:=Option PA×Nat×Nat×PA×Nat×Nat
abbrev H2:=Option PA×Nat×Nat×PA×Nat×Nat×Nat
abbrev H0:=Option PA×Nat×Nat×PA×Nat
abbrev Ck(a b:PA)(i j:Nat)(o:PA):PA:=a.extract 0 i++b.extract 0 j++o.reverse
abbrev FF(a b:PA)(i j:Nat)(o:PA):PA:=b.extract 0 j++a.extract 0 i++o.reverse
def FX(a b:PA)(g:Nat)(i j:Nat)(o:PA)(m n:Nat):SM (ForInStep H1):=
 elem' b (j-1) >>= λy=>elem' a (i-1) >>= λx=>lt' y x >>= λt=>match t with
 |some t=>if t=true then elem' a (i-1) >>= λx=>
   if(i-1==0)=true then pure (.done (some (Ck a b (i-1) j (o.push x)),i-1,j,o.push x,m+1,0))
   else if m+1≥g then pure (.done (none,i-1,j,o.push x,m+1,0)) else pure (.yield (none,i-1,j,o.push x,m+1,0))
  else elem' b (j-1) >>= λy=>
   if(j-1==1)=true then pure (.done (some (FF a b i (j-1) (o.push y)),i,j-1,o.push y,0,n+1))
   else if n+1≥g then pure (.done (none,i,j-1,o.push y,0,n+1)) else pure (.yield (none,i,j-1,o.push y,0,n+1))
 |_=>pure (.done (some (Ck a b i j o),i,j,o,m,n))
def GS(a b:PA)(i j:Nat)(o:PA)(g m n:Nat):SM (ForInStep H2):=
 elem' a (i-1) >>= λx=>if(i-1==0)=true then pure (.done (some (Ck a b (i-1) j (o.push x)),i-1,j,o.push x,g,m,n))
  else if(decide (m<7)&&decide (n<7))=true then pure (.done (none,i-1,j,o.push x,g,m,n)) else pure (.yield (none,i-1,j,o.push x,g,m,n))
def GP(a b:PA)(i j:Nat)(o:PA)(g m n:Nat):SM (ForInStep H2):=
 elem' b (j-1) >>= λy=>if(j-1==1)=true then pure (.done (some (FF a b i (j-1) (o.push y)),i,j-1,o.push y,g,m,n))
  else elem' a (i-1) >>= λx=>hJ true x b 0 (j-1) (j-1-1) >>= λt=>match t with
  |some k=>if j-1-k>0 then
    if(k==1)=true then pure (.done (some (FF a b i k (o.push y++(b.extract k (j-1)).reverse)),i,k,o.push y++(b.extract k (j-1)).reverse,g,m,j-1-k))
    else if(k==0)=true then pure (.done (some (Ck a b i k (o.push y++(b.extract k (j-1)).reverse)),i,k,o.push y++(b.extract k (j-1)).reverse,g,m,j-1-k))
    else GS a b i k (o.push y++(b.extract k (j-1)).reverse) g m (j-1-k)
   else GS a b i (j-1) (o.push y) g m (j-1-k)
  |_=>pure (.done (some (Ck a b i (j-1) (o.push y)),i,j-1,o.push y,g,m,n))
def jS(a b:PA)(i j:Nat)(o:PA)(g m n:Nat):SM (ForInStep H2):=
 k_ g >>= λ_=>elem' b (j-1) >>= λy=>hJ false y a 0 i (i-1) >>= λt=>match t with
  |some k=>if i-k>0 then
    if(k==0)=true then pure (.done (some (Ck a b k j (o++(a.extract k i).reverse)),k,j,o++(a.extract k i).reverse,g,i-k,n))
    else GP a b k j (o++(a.extract k i).reverse) g (i-k) n
   else GP a b i j o g (i-k) n
  |_=>pure (.done (some (Ck a b i j o),i,j,o,g,m,n))
def He(a b:PA)(s:H0):SM (ForInStep H0):=
 forIn [0:a.size+b.size] ((none,s.2.1,s.2.2.1,s.2.2.2.1,0,0):H1) (λ_ t=>FX a b s.2.2.2.2 t.2.1 t.2.2.1 t.2.2.2.1 t.2.2.2.2.1 t.2.2.2.2.2) >>= λt=>
 match t.1 with
 |some z=>pure (.done (some z,t.2.1,t.2.2.1,t.2.2.2.1,s.2.2.2.2))
 |none=>liftM (rule "list.sort.gallop") >>= λ_=>
  forIn [0:a.size+b.size] ((none,t.2.1,t.2.2.1,t.2.2.2.1,s.2.2.2.2+1,t.2.2.2.2.1,t.2.2.2.2.2):H2) (λ_ u=>
   if u.2.2.2.2.1>1 then jS a b u.2.1 u.2.2.1 u.2.2.2.1 (u.2.2.2.2.1-1) u.2.2.2.2.2.1 u.2.2.2.2.2.2 else jS a b u.2.1 u.2.2.1 u.2.2.2.1 u.2.2.2.2.1 u.2.2.2.2.2.1 u.2.2.2.2.2.2) >>= λu=>
  match u.1 with
  |some z=>pure (.done (some z,u.2.1,u.2.2.1,u.2.2.2.1,u.2.2.2.2.1))
  |none=>k_ (u.2.2.2.2.1+1) >>= λ_=>pure (.yield (none,u.2.1,u.2.2.1,u.2.2.2.1,u.2.2.2.2.1+1))
def D1(a b:PA):SM PA:=
 liftM (rule "list.sort.merge-hi") >>= λ_=>elem' a (a.size-1) >>= λx=>
 if(a.size-1==0)=true then pure (Ck a b (a.size-1) b.size #[x]) else if(b.size==1)=true then pure (FF a b (a.size-1) b.size #[x]) else
 get >>= λst=>forIn [0:a.size+b.size] ((none,a.size-1,b.size,#[x],gallopOf st):H0) (λ_ s=>He a b s) >>= λs=>
 match s.1 with
 |some z=>pure z
 |none=>liftM (unsupported "internal:list.sort.merge-bound":Sem PA)
theorem wP(a b:PA):vq a b=D1 a b:=by
 refine aV rfl λ_=>aV rfl λy=>dY rfl (dY rfl (aV rfl λst=>aV (gR λ_ s=>?_) λs=>?_))
 ·refine aV (gR λ_ t=>?_) λt=>?_
  ·refine aV rfl λy=>aV rfl λx=>aV rfl λt=>?_
   rfl
  ·obtain⟨z,t⟩:=t
   cases z with
   |some z=>rfl
   |none=>
    refine aV rfl λ_=>aV (gR λ_ u=>dY ?_ ?_) λu=>?_
    ·rfl
    ·rfl
    ·obtain⟨z,u⟩:=u
     cases z<;>rfl
 ·obtain⟨z,s⟩:=s
  cases z<;>rfl
section
variable {prog:LH}{w:LK}{A:LJ}{E:Lx}{J:Shared->Prop}{a₀:Array Keyed}{kd:SortKind}{r:Keyed->Nat}{a b:PA}
abbrev AJ(r:Keyed->Nat):Keyed->Keyed->Prop:=λp q=>r q<=r p
theorem gu{l:List Keyed}(h:l.Pairwise (gO r)):l.reverse.Pairwise (AJ r):=List.pairwise_reverse.mpr h
theorem BI{α:Type}(a:Array α)(i:Nat):(a.extract 0 i).toList=a.toList.take i:=by
 rw[Array.toList_extract];simp[List.extract]
theorem xJ{α:Type}(a:Array α){k i:Nat}(h:k<=i):(a.extract k i).reverse.toList=((a.toList.take i).drop k).reverse:=by
 rw[Array.toList_reverse,Array.toList_extract];simp only[List.extract];rw[<- List.drop_take]
theorem gm(a:PA)(s:a.toList.Pairwise (gO r)){i:Nat}(h0:0<i)(h:i<=a.toList.length) :
  ∃x,a[i-1]?=some x/\(a.toList.take i).reverse=x::(a.toList.take (i-1)).reverse/\x∈a.toList/\∀q,q∈a.toList.take i->r q<=r x:=by
 have e:a.toList.take i=a.toList.take (i-1)++[a.toList[i-1]]:=by
  have:=List.take_succ_eq_append_getElem (l:=a.toList) (i:=i-1) ⋯
  rwa [show i-1+1=i by omega]at this
 refine⟨a.toList[i-1],?_,by rw[e,Li];rfl,KM _,λq hq=>?_⟩
 ·rw[<- q0G,Kz ⋯]
 ·have b:=s.sublist (List.take_sublist i _)
  rw[e]at b hq;rcases KR.mp hq with hq | hq
  ·exact(List.pairwise_append.mp b).2.2 q hq _ (List.mem_singleton_self _)
  ·rw[KF.mp hq];exact K4 _
structure MH(prog:LH)(w:LK)(A:LJ)(J:Shared->Prop)(a₀:PA)(kd:SortKind)(r:Keyed->Nat)(a b:PA):Prop where
 C:Cmp prog w A J a₀ kd r
 ha:∀p,p∈a.toList->p∈a₀.toList
 hb:∀p,p∈b.toList->p∈a₀.toList
 sa:a.toList.Pairwise (gO r)
 sb:b.toList.Pairwise (gO r)
 h0:∀y,b[0]?=some y->∀q,q∈a.toList->r y<=r q
abbrev ux(r:Keyed->Nat)(a b o:PA)(i j:Nat):Prop:=MI (AJ r) a.toList.reverse b.toList.reverse o.toList (a.toList.take i).reverse (b.toList.take j).reverse
structure jn(r:Keyed->Nat)(a b o:PA)(i j:Nat):Prop where
 mi:ux r a b o i j
 hi:0<i
 hi':i<=a.toList.length
 hj:1<j
 hj':j<=b.toList.length
def PH(r:Keyed->Nat)(a b:PA)(k:Nat)(z:Option PA)(i j:Nat)(o:PA):Prop:=match z with
 |some z=>iU r a b z
 |none=>jn r a b o i j/\k<=o.size
theorem jn.lt(h:jn r a b o i j):o.size<a.size+b.size:=by
 have:=h.mi.len;have h1:=h.hi;have h2:=h.hj;have d:=h.hi';have c:=h.hj'
 simp at this d c;omega
theorem nE{z:PA}{l:List Keyed}(e:z.toList=l.reverse)(h:l.Pairwise (AJ r)/\l.Perm (a.toList.reverse++b.toList.reverse)):iU r a b z:=by
 unfold iU;rw[e]
 exact⟨List.pairwise_reverse.mpr h.1,(List.reverse_perm _).trans (h.2.trans ((List.reverse_perm _).append (List.reverse_perm _)))⟩
theorem Gx(m:MH prog w A J a₀ kd r a b){o:PA}{i j:Nat}(h:ux r a b o i j)(hj:i=0\/j=0):iU r a b (Ck a b i j o):=by
 rcases hj with rfl | rfl
 ·have c:MI (AJ r) a.toList.reverse b.toList.reverse o.toList [] (b.toList.take j).reverse:=h
  exact nE (by simp only[Ck,q0V,BI,Array.toList_reverse,Li,Lj,List.take_zero,Lq]) (c.finY (gu m.sb))
 ·have c:MI (AJ r) a.toList.reverse b.toList.reverse o.toList (a.toList.take i).reverse []:=h
  exact nE (by simp only[Ck,q0V,BI,Array.toList_reverse,Li,Lj,List.take_zero,Lc]) (c.finX (gu m.sa))
theorem GE(m:MH prog w A J a₀ kd r a b){o:PA}{i j:Nat}(h:ux r a b o i j)(hj:j=1)(hb:0<b.toList.length):iU r a b (FF a b i j o):=by
 subst hj;obtain⟨y,n,k,e3,e4⟩:=gm b m.sb (i:=1) ⋯ ⋯;have c:(b.toList.take 1).reverse=[y]:=by rw[k];rfl
 have e:MI (AJ r) a.toList.reverse b.toList.reverse o.toList (a.toList.take i).reverse [y]:=by rw[<- c];exact h
 have g:b.toList.take 1=[y]:=by have:=q0R List.reverse c;simpa using this
 refine nE (l:=o.toList++((a.toList.take i).reverse++[y])) ?_ ?_
 ·simp only[FF,q0V,BI,Array.toList_reverse,Li,Lj,g,List.reverse_singleton,Ld]
 ·have:=e.swap.lastX (gu m.sa) λq d=>m.h0 y n q (q0H (List.mem_reverse.mp d))
  exact⟨this.1,this.2.trans List.perm_append_comm⟩
theorem F7(m:MH prog w A J a₀ kd r a b){st:SortSt}(hk:kindOf st=kd){o:PA}{i j g u v:Nat}(h:jn r a b o i j) :
  fw b⁻¹ A E J (FX a b g i j o u v) (λt st'=>st'=st/\match t with
   | .done s=>PH r a b (o.size+1) s.1 s.2.1 s.2.2.1 s.2.2.2.1
   | .yield s=>s.1=none/\PH r a b (o.size+1) s.1 s.2.1 s.2.2.1 s.2.2.2.1) st:=by
 unfold FX;have h1:=h.hi;have h2:=h.hj;have p:=h.hi';have n:=h.hj'
 obtain⟨y,z,I,G,D⟩:=gm b m.sb (i:=j) ⋯ n;obtain⟨x,B,O,M,L⟩:=gm a m.sa (i:=i) ⋯ p;refine aA (cH z (aA (cH B (aA (Bf m.C (m.hb _ G) (m.ha _ M) hk ?_)))));dsimp only;have mi:MI (AJ r) a.toList.reverse b.toList.reverse o.toList (a.toList.take i).reverse (b.toList.take j).reverse:=h.mi
 by_cases l:r y<r x
 ·rw[q07 (q09 l)]
  refine aA (cH B ?_);rw[O]at mi;have c:ux r a b (o.push x) (i-1) j:=by
   unfold ux;rw[Array.toList_push]
   exact mi.oneX (gu m.sa) λq k=>by have:=D q (List.mem_reverse.mp k);show r q<=r x;omega
  by_cases d:(i-1==0)=true
  ·rw[q07 d];exact aF ⟨rfl,Gx m c (.inl (eq_of_beq d))⟩
  ·rw[q06 d]
   have e:jn r a b (o.push x) (i-1) j:=⟨c,by have:=cU d;omega,⋯,h2,n⟩
   split
   ·exact aF ⟨rfl,e,by simp⟩
   ·exact aF ⟨rfl,rfl,e,by simp⟩
 ·rw[q06 (by simpa using l)]
  refine aA (cH z ?_);rw[I]at mi;have c:ux r a b (o.push y) i (j-1):=by
   unfold ux;rw[Array.toList_push]
   exact mi.oneY (gu m.sb) λq k=>by have:=L q (List.mem_reverse.mp k);show r q<=r y;omega
  by_cases d:(j-1==1)=true
  ·rw[q07 d];exact aF ⟨rfl,GE m c (eq_of_beq d) ⋯⟩
  ·rw[q06 d]
   have e:jn r a b (o.push y) i (j-1):=⟨c,h1,p,by have:=cU d;omega,⋯⟩
   split
   ·exact aF ⟨rfl,e,by simp⟩
   ·exact aF ⟨rfl,rfl,e,by simp⟩
theorem El(m:MH prog w A J a₀ kd r a b){st:SortSt}{o:PA}{i j g u v k:Nat}(h:jn r a b o i j)(hk:k<=o.size)(hx:∀x,a[i-1]?=some x->∀q,q∈b.toList.take j->r q<=r x) :
  fw b⁻¹ A E J (GS a b i j o g u v) (λt st'=>st'=st/\match t with
   | .done s=>PH r a b (k+1) s.1 s.2.1 s.2.2.1 s.2.2.2.1
   | .yield s=>s.1=none/\PH r a b (k+1) s.1 s.2.1 s.2.2.1 s.2.2.2.1) st:=by
 unfold GS;have h1:=h.hi;have h2:=h.hj;have y:=h.hi';have p:=h.hj'
 obtain⟨x,l,z,a3,a4⟩:=gm a m.sa (i:=i) ⋯ y;refine aA (cH l ?_);have mi:MI (AJ r) a.toList.reverse b.toList.reverse o.toList (a.toList.take i).reverse (b.toList.take j).reverse:=h.mi;rw[z]at mi;have c:ux r a b (o.push x) (i-1) j:=by
  unfold ux;rw[Array.toList_push];exact mi.oneX (gu m.sa) λq n=>hx x l q (List.mem_reverse.mp n)
 by_cases d:(i-1==0)=true
 ·rw[q07 d];exact aF ⟨rfl,Gx m c (.inl (eq_of_beq d))⟩
 ·rw[q06 d]
  have e:jn r a b (o.push x) (i-1) j:=⟨c,by have:=cU d;omega,⋯,h2,p⟩
  split
  ·exact aF ⟨rfl,e,by simp;omega⟩
  ·exact aF ⟨rfl,rfl,e,by simp;omega⟩
theorem qA(l:List Keyed){k i:Nat}(h:k<=i):(l.take i).reverse=((l.take i).drop k).reverse++(l.take k).reverse:=by
 rw[<- Li];have:=List.take_append_drop k (l.take i);rw[List.take_take,Lv h]at this;rw[this]
theorem D8(m:MH prog w A J a₀ kd r a b){st:SortSt}(hk:kindOf st=kd){o:PA}{i j g u v k:Nat}(h:jn r a b o i j)(hz:k<=o.size)(hy:∀y,b[j-1]?=some y->∀q,q∈a.toList.take i->r q<=r y) :
  fw b⁻¹ A E J (GP a b i j o g u v) (λt st'=>st'=st/\match t with
   | .done s=>PH r a b (k+1) s.1 s.2.1 s.2.2.1 s.2.2.2.1
   | .yield s=>s.1=none/\PH r a b (k+1) s.1 s.2.1 s.2.2.1 s.2.2.2.1) st:=by
 unfold GP;have h1:=h.hi;have h2:=h.hj;have M:=h.hi';have Z:=h.hj'
 obtain⟨y,T,b2,b3,b4⟩:=gm b m.sb (i:=j) ⋯ Z;obtain⟨x,O,a2,a3,a4⟩:=gm a m.sa (i:=i) ⋯ M;refine aA (cH T ?_);have mi:MI (AJ r) a.toList.reverse b.toList.reverse o.toList (a.toList.take i).reverse (b.toList.take j).reverse:=h.mi;rw[b2]at mi;have c:ux r a b (o.push y) i (j-1):=by
  unfold ux;rw[Array.toList_push];exact mi.oneY (gu m.sb) λq d=>hy y T q (List.mem_reverse.mp d)
 by_cases G:(j-1==1)=true
 ·rw[q07 G];exact aF ⟨rfl,GE m c (eq_of_beq G) ⋯⟩
 ·rw[q06 G]
  have hc':=cU G;refine aA (cH O (aA (qG m.C hk (m.ha _ a3) ⋯ ⋯ (by rw[Lw];exact λp I=>m.hb p (q0H I)) (by rw[Lw];exact m.sb.sublist (List.take_sublist _ _)) λe L S f2=>?_)));rw[Lw]at S f2;dsimp only;have g1:∀p,p∈((b.toList.take (j-1)).drop e).reverse->∀q,q∈(a.toList.take i).reverse->r q<=r p:=λp I q d=>by
   have Y:r x<=r p:=lO (f2 p (List.mem_reverse.mp I));have:=a4 q (List.mem_reverse.mp d);omega
  have R:∀q,q∈b.toList.take e->r q<=r x:=λq d=>by
   have Y:r q<r x:=S q (by rw[List.take_take,Lv L];exact d);omega
  by_cases B:j-1-e>0
  ·rw[q07 B]
   have z:ux r a b (o.push y++(b.extract e (j-1)).reverse) i e:=by
    unfold ux at c ⊢;rw[q0V,xJ b L];rw[qA b.toList L]at c;exact c.takeY (gu m.sb) g1
   by_cases n:(e==1)=true
   ·rw[q07 n];exact aF ⟨rfl,GE m z (eq_of_beq n) ⋯⟩
   ·rw[q06 n]
    by_cases l:(e==0)=true
    ·rw[q07 l];exact aF ⟨rfl,Gx m z (.inr (eq_of_beq l))⟩
    ·rw[q06 l]
     exact El m ⟨z,h1,M,by have:=cU n;have:=cU l;omega,⋯⟩ (by simp;omega) λU D q d=>by rw[O]at D;cases D;exact R q d
  ·rw[q06 B]
   have e0:e=j-1:=by omega
   subst e0;exact El m ⟨c,h1,M,⋯,⋯⟩ (by simp;omega) λU D q d=>by rw[O]at D;cases D;exact R q d
theorem GB(m:MH prog w A J a₀ kd r a b){st:SortSt}(hk:kindOf st=kd){o:PA}{i j g u v:Nat}(h:jn r a b o i j) :
  fw b⁻¹ A E J (jS a b i j o g u v) (λt st'=>SG st st'/\match t with
   | .done s=>PH r a b (o.size+1) s.1 s.2.1 s.2.2.1 s.2.2.2.1
   | .yield s=>s.1=none/\PH r a b (o.size+1) s.1 s.2.1 s.2.2.1 s.2.2.2.1) st:=by
 unfold jS;refine aA (nk λst' z=>?_);have d:kindOf st'=kd:=z.1.trans hk;have h1:=h.hi;have h2:=h.hj;have h3:=h.hi';have L:=h.hj'
 obtain⟨y,I,b2,Z,Y⟩:=gm b m.sb (i:=j) ⋯ L;refine aA (cH I (aA (qG m.C d (m.hb _ Z) ⋯ ⋯ (by rw[Lw];exact λp D=>m.ha p (q0H D)) (by rw[Lw];exact m.sa.sublist (List.take_sublist _ _)) λe G O f2=>?_)));rw[Lw]at O f2;dsimp only;have T:∀p,p∈((a.toList.take i).drop e).reverse->∀q,q∈(b.toList.take j).reverse->r q<=r p:=λp D q c=>by
  have q1:r y<r p:=lO (f2 p (List.mem_reverse.mp D));have:=Y q (List.mem_reverse.mp c);omega
 have M:∀q,q∈a.toList.take e->r q<=r y:=λq c=>O q (by rw[List.take_take,Lv G];exact c)
 by_cases n:i-e>0
 ·rw[q07 n]
  have l:ux r a b (o++(a.extract e i).reverse) e j:=by
   have mi:=h.mi;unfold ux at mi ⊢;rw[q0V,xJ a G];rw[qA a.toList G]at mi;exact mi.takeX (gu m.sa) T
  by_cases B:(e==0)=true
  ·rw[q07 B];exact aF ⟨z,Gx m l (.inl (eq_of_beq B))⟩
  ·rw[q06 B]
   exact bZ (D8 (k:=o.size) m d ⟨l,by have:=cU B;omega,⋯,h2,L⟩ (by simp) λR x q c=>by rw[I]at x;cases x;exact M q c) λt S q=>⟨by rw[q.1];exact z,q.2⟩
 ·rw[q06 n]
  have U:e=i:=by omega
  subst U;exact bZ (D8 (k:=o.size) m d h (K4 _) λR x q c=>by rw[I]at x;cases x;exact M q c) λt S q=>⟨by rw[q.1];exact z,q.2⟩
theorem Gg(m:MH prog w A J a₀ kd r a b){st:SortSt}(hk:kindOf st=kd){s:H0}(h:jn r a b s.2.2.2.1 s.2.1 s.2.2.1) :
  fw b⁻¹ A E J (He a b s) (λt st'=>SG st st'/\match t with
   | .done u=>∃z,u.1=some z/\iU r a b z
   | .yield u=>u.1=none/\jn r a b u.2.2.2.1 u.2.1 u.2.2.1/\s.2.2.2.1.size+1<=u.2.2.2.1.size) st:=by
 unfold He;refine aA (bZ (eS (I:=λx c st'=>st'=st/\c.1=none/\jn r a b c.2.2.2.1 c.2.1 c.2.2.1/\s.2.2.2.1.size+x<=c.2.2.2.1.size)
  (Q:=λc st'=>st'=st/\PH r a b (s.2.2.2.1.size+1) c.1 c.2.1 c.2.2.1 c.2.2.2.1) ?s1 ?e1 ⟨rfl,rfl,h,K4 _⟩) ?p1)
 case e1=>
  rintro c st' ⟨rfl,D,k,C⟩;have:=k.lt;omega
 case s1=>
  rintro x c st' _ C ⟨rfl,D,k,G⟩;refine bZ (F7 m hk k) λt d q=>?_;obtain⟨rfl,q⟩:=q;cases t with
  |done u=>
   refine⟨rfl,?_⟩;dsimp only at q
   revert q;unfold PH;cases u.1 with
   |some z=>exact id
   |none=>exact λq=>⟨q.1,by have:=q.2;omega⟩
  |yield u=>
   obtain⟨y,p⟩:=q;rw[y]at p;exact⟨rfl,y,p.1,by have:=p.2;omega⟩
 case p1=>
  rintro⟨z,i,j,o,u,v⟩ st' ⟨rfl,q⟩;cases z with
  |some z=>exact aF ⟨SG.refl _,z,rfl,q⟩
  |none=>
   obtain⟨k,G⟩:=q;dsimp only;refine aA (jL λ_ L=>wpAny_rule ⟨L,?_⟩);refine aA (bZ (eS (I:=λx c d=>SG st' d/\c.1=none/\jn r a b c.2.2.2.1 c.2.1 c.2.2.1/\s.2.2.2.1.size+1<=c.2.2.2.1.size)
    (Q:=λc d=>SG st' d/\PH r a b (s.2.2.2.1.size+1) c.1 c.2.1 c.2.2.1 c.2.2.2.1) ?s2 ?e2 ⟨SG.refl _,rfl,k,G⟩) ?p2)
   case e2=>
    rintro c d ⟨n,D,k,C⟩;exact⟨n,by rw[D];exact⟨k,C⟩⟩
   case s2=>
    rintro x c d _ C ⟨n,D,k,G⟩;have B:∀g,fw b⁻¹ A E J (jS a b c.2.1 c.2.2.1 c.2.2.2.1 g c.2.2.2.2.2.1 c.2.2.2.2.2.2) (λt e=>match t with
      | .done c'=>SG st' e/\PH r a b (s.2.2.2.1.size+1) c'.1 c'.2.1 c'.2.2.1 c'.2.2.2.1
      | .yield c'=>SG st' e/\c'.1=none/\jn r a b c'.2.2.2.1 c'.2.1 c'.2.2.1/\s.2.2.2.1.size+1<=c'.2.2.2.1.size) d:=by
     intro g;refine bZ (GB m (n.1.trans hk) k) λt e q=>?_;obtain⟨l,q⟩:=q;cases t with
     |done u=>
      refine⟨n.trans l,?_⟩;dsimp only at q
      revert q;unfold PH;cases u.1 with
      |some z=>exact id
      |none=>exact λq=>⟨q.1,by have:=q.2;omega⟩
     |yield u=>
      obtain⟨y,p⟩:=q;rw[y]at p;exact⟨n.trans l,y,p.1,by have:=p.2;omega⟩
    split
    ·exact bZ (B _) λt e q=>by cases t<;>exact q
    ·exact bZ (B _) λt e q=>by cases t<;>exact q
   case p2=>
    rintro⟨z,i2,j2,o2,g2,u2,v2⟩ d ⟨n,q⟩;cases z with
    |some z=>exact aF ⟨n,z,rfl,q⟩
    |none=>exact aA (nk λe l=>aF ⟨n.trans l,rfl,q.1,q.2⟩)
theorem zM(m:MH prog w A J a₀ kd r a b){st:SortSt}(hk:kindOf st=kd){Q:PA->SortSt->Prop}(hl:∀x,a[a.size-1]?=some x->∀q,q∈b.toList->r q<=r x)
  (na:0<a.toList.length) (nb:0<b.toList.length) (h:∀l st',SG st st'->iU r a b l->Q l st'):fw b⁻¹ A E J (vq a b) Q st:=by
 rw[wP];unfold D1
 obtain⟨x,B,D,a3,a4⟩:=gm a m.sa (i:=a.toList.length) na (K4 _);have C:a.toList.length=a.size:=by simp
 have y:b.toList.length=b.size:=by simp
 rw[C]at B D;refine aA (jL λs j=>wpAny_rule ⟨j,aA (cH B ?_)⟩);have o:ux r a b #[x] (a.size-1) b.size:=by
  have h1:=MI.start (le:=AJ r) a.toList.reverse b.toList.reverse;have O:a.toList.reverse=x::(a.toList.take (a.size-1)).reverse:=by rw[<- D,<- C,Lf]
  have h2:MI (AJ r) a.toList.reverse b.toList.reverse [] (x::(a.toList.take (a.size-1)).reverse) b.toList.reverse:=by rw[<- O];exact h1
  have M:=h2.oneX (gu m.sa) λq L=>hl x B q (List.mem_reverse.mp L);unfold ux;rw[show b.toList.take b.size=b.toList by rw[<- y,Lf]];exact M
 by_cases n:(a.size-1==0)=true
 ·rw[q07 n];exact aF (h _ _ (SG.refl _) (Gx m o (.inl (eq_of_beq n))))
 ·rw[q06 n]
  by_cases d:(b.size==1)=true
  ·rw[q07 d];exact aF (h _ _ (SG.refl _) (GE m o (eq_of_beq d) nb))
  ·rw[q06 d]
   refine aA (gN ?_);refine aA (bZ (eS (I:=λx c st'=>SG st st'/\c.1=none/\jn r a b c.2.2.2.1 c.2.1 c.2.2.1/\x+1<=c.2.2.2.1.size)
    (Q:=λc st'=>SG st st'/\∃z,c.1=some z/\iU r a b z) ?s ?e ⟨SG.refl _,rfl,⟨o,by have:=cU n;show 0<a.size-1;omega,by show a.size-1<=_;omega,by have:=cU d;show 1<b.size;omega,by show b.size<=_;omega⟩,by simp⟩) ?p)
   case e=>
    rintro c st' ⟨_,R,v,G⟩;have:=v.lt;omega
   case s=>
    rintro x c st' _ G ⟨k,R,v,hz⟩;refine bZ (Gg m (k.1.trans hk) v) λt st2 q=>?_;obtain⟨g,q⟩:=q;cases t with
    |done u=>exact⟨k.trans g,q⟩
    |yield u=>exact⟨k.trans g,q.1,q.2.1,by have:=q.2.2;omega⟩
   case p=>
    rintro⟨z,u⟩ st' ⟨k,z',e,q⟩;dsimp only at e;subst e;exact aF (h _ _ k q)
end
section
variable {prog:LH}{w:LK}{A:LJ}{E:Lx}{J:Shared->Prop}{a₀:Array Keyed}{kd:SortKind}{r:Keyed->Nat}
theorem ya(s:Nat):∀(l:List Keyed) (n:Nat) (arr:PA),s+n+l.length<=arr.toList.length ->
  ((l.zipIdx n).foldl (λa (x:Keyed×Nat)=>a.setIfInBounds (s+x.2) x.1) arr).toList=arr.toList.take (s+n)++l++arr.toList.drop (s+n+l.length)
 | [],n,arr,h=>by simp
 |p::l,n,arr,h=>by
  rw[List.zipIdx_cons,List.foldl_cons,ya s l (n+1) _ (by simp at h ⊢;omega),Array.toList_setIfInBounds];dsimp only;have hlt:s+n<arr.toList.length:=by simp at h ⊢;omega
  have c:(arr.toList.set (s+n) p).take (s+(n+1))=arr.toList.take (s+n)++[p]:=by
   rw[show s+(n+1)=(s+n)+1 by omega,List.take_succ_eq_append_getElem (by simpa using hlt),List.take_set_of_le (K4 _),List.getElem_set_self]
  have b:(arr.toList.set (s+n) p).drop (s+(n+1)+l.length)=arr.toList.drop (s+n+(p::l).length):=by
   rw[List.drop_set_of_lt ⋯];congr 1;simp;omega
  rw[c,b];simp
structure SB(a₀:PA)(kd:SortKind)(st:SortSt):Prop where
 perm:(arrOf st).toList.Perm a₀.toList
 kind:kindOf st=kd
 failed:failedOf st=none
theorem qS{l u x v:List Keyed}(e:l=u++(x++v)):(l.drop u.length).take x.length=x:=by
 rw[e,List.drop_left,List.take_left]
theorem zS{st:SortSt}{Q:Bool->SortSt->Prop}(C:Cmp prog w A J a₀ kd r)(B:SB a₀ kd st){p1 p2:List (Nat×Nat×Nat)}{pw pw':Nat}{u x y v:List Keyed}
  (hp:(pendingOf st).toList=p1++(u.length,x.length,pw)::(u.length+x.length,y.length,pw')::p2) (ha:(arrOf st).toList=u++(x++(y++v)))
  (hx:x≠[]) (hy:y≠[]) (sx:x.Pairwise (gO r)) (sy:y.Pairwise (gO r))
  (h:∀st' z,SB a₀ kd st'->(pendingOf st').toList=p1++(u.length,x.length+y.length,pw)::p2->(arrOf st').toList=u++(z++v)->z.Perm (x++y)->z.Pairwise (gO r)->Q true st') :
  fw b⁻¹ A E J (mergeAt' p1.length) Q st:=by
 unfold mergeAt';refine aA (gN ?_);have e1:(pendingOf st)[p1.length]?=some (u.length,x.length,pw):=by rw[<- q0G,hp];simp
 have e2:(pendingOf st)[p1.length+1]?=some (u.length+x.length,y.length,pw'):=by rw[<- q0G,hp];simp
 have hL:u.length+x.length+y.length<=(arrOf st).toList.length:=by rw[ha];simp;omega
 have m:∀p,p∈x++y->p∈a₀.toList:=λp c=>B.perm.mem_iff.mp (by
  rw[ha];rcases KR.mp c with q | q<;>simp[q])
 obtain⟨d,g,rfl⟩:∃d g,y=d::g:=by cases y with | nil=>exact q0Q rfl hy | cons p q=>exact⟨p,q,rfl⟩
 have ey:(arrOf st)[u.length+x.length]?=some d:=by rw[<- q0G,ha,K1 ⋯,K1 ⋯];simp
 have a0:0<x.length:=List.length_pos_iff.mpr hx;have ex:(arrOf st)[u.length+x.length-1]?=some (x[x.length-1]'⋯):=by
  rw[<- q0G,ha,K1 ⋯,K2 ⋯,Kz ⋯];congr 2;omega
 generalize M:(x[x.length-1]'⋯)=xl at ex;have a1:xl∈x:=by rw[<- M];exact KM _
 have lst:∀p,p∈x->r p<=r xl:=λp c=>by
  obtain⟨t,ht,e⟩:=List.mem_iff_getElem.mp c;rw[<- e,<- M];rcases Nat.lt_or_ge t (x.length-1) with q | q
  ·exact(List.pairwise_iff_getElem.mp sx) _ _ _ _ q
  ·have:t=x.length-1:=by omega
   subst this;exact K4 _
 have hd:∀q,q∈d::g->r d<=r q:=λq hq=>by
  rcases KU.mp hq with rfl | hq
  ·exact K4 _
  ·exact(List.pairwise_cons.mp sy).1 q hq
 have G:((arrOf st).toList.drop u.length).take x.length=x:=qS ha;have D:((arrOf st).toList.drop (u.length+x.length)).take (d::g).length=d::g:=by
  have:=qS (l:=(arrOf st).toList) (u:=u++x) (x:=d::g) (v:=v) (by rw[ha];simp)
  rwa [K3]at this
 have j:(((pendingOf st).setIfInBounds p1.length (u.length,x.length+(d::g).length,pw)).eraseIdxIfInBounds (p1.length+1)).toList=p1++(u.length,x.length+(d::g).length,pw)::p2:=by
  rw[Array.toList_eraseIdxIfInBounds,Array.toList_setIfInBounds,hp];simp[List.eraseIdx_append_of_length_le]
 have o:∀st',SB a₀ kd st'->(pendingOf st').toList=p1++(u.length,x.length+(d::g).length,pw)::p2->arrOf st'=arrOf st->(∀p,p∈x->∀q,q∈d::g->r p<=r q)->Q true st':=λst' B' p' a' q=>
  h st' (x++(d::g)) B' p' (by rw[a',ha,Ld]) (List.Perm.refl _) (List.pairwise_append.mpr ⟨sx,sy,q⟩)
 dsimp only;rw[e1,e2];dsimp only;refine aA (Gh ?_);refine aA (cH ey (aA (qG C B.kind (m _ (by simp)) a0 (by show u.length+x.length<=(arrOf st).toList.length;omega) (by rw[G];exact λp q=>m p (q0D _ q)) (by rw[G];exact sx) λk hk f1 f2=>?_)));rw[G]at f1 f2;dsimp only;have g1:∀p,p∈x.take k->r p<=r d:=f1;have g2:∀p,p∈x.drop k->r d<r p:=λp c=>lO (f2 p c)
 by_cases hc:(x.length-k==0)=true
 ·rw[q07 hc]
  have:x.take k=x:=q0F (by have:=eq_of_beq hc;omega);rw[this]at g1;exact aF (o _ ⟨B.perm,B.kind,B.failed⟩ j rfl λp c q hq=>K' (g1 p c) (hd q hq))
 ·rw[q06 hc]
  have hc':=cU hc;refine aA (cH (p:=xl) (by rw[show u.length+k+(x.length-k)-1=u.length+x.length-1 by omega];exact ex) (aA (qG C B.kind (m _ (q0D _ a1)) (by simp) (by simpa using hL) (by rw[D];exact λp q=>m p (q0C _ q)) (by rw[D];exact sy) λn hn f3 f4=>?_)));rw[D]at f3 f4;dsimp only;have g3:∀p,p∈(d::g).take n->r p<r xl:=f3;have g4:∀p,p∈(d::g).drop n->r xl<=r p:=λp c=>lO (f4 p c)
  by_cases I:(n==0)=true
  ·rw[q07 I]
   have e0:n=0:=eq_of_beq I;subst e0;exact aF (o _ ⟨B.perm,B.kind,B.failed⟩ j rfl λp c q hq=>K' (lst p c) (g4 q hq))
  ·rw[q06 I]
   have hn0':=cU I;have S:((arrOf st).extract (u.length+k) (u.length+x.length)).toList=x.drop k:=by
    rw[show u.length+x.length=(u.length+k)+(x.length-k) by omega,mX,<- List.drop_drop,<- List.drop_take,G]
   have R:((arrOf st).extract (u.length+x.length) (u.length+x.length+n)).toList=(d::g).take n:=by
    rw[mX];have:=q0R (List.take n) D
    rwa [List.take_take,Lv hn]at this
   generalize(arrOf st).extract (u.length+k) (u.length+x.length)=aa at S ⊢;generalize(arrOf st).extract (u.length+x.length) (u.length+x.length+n)=bb at R ⊢;have la:aa.toList.length=x.length-k:=by rw[S,Lh]
   have lb:bb.toList.length=n:=by rw[R,Lg];omega
   have h0:∀y,bb[0]?=some y->∀q,q∈aa.toList->r y<=r q:=λy e q hq=>by
    rw[<- q0G,R]at e;have:y=d:=by
     rw[List.getElem?_take,q07 ⋯]at e;exact(q0S e).symm
    subst this;rw[S]at hq;exact q0P (g2 q hq)
   have hl:∀z,aa[aa.toList.length-1]?=some z->∀q,q∈bb.toList->r q<=r z:=λz e q hq=>by
    rw[<- q0G,la,S,List.getElem?_drop,show k+(x.length-k-1)=x.length-1 by omega,Kz ⋯,M]at e;cases e;rw[R]at hq;exact q0P (g3 q hq)
   have Z:∀p,p∈aa.toList->p∈a₀.toList:=λp c=>m p (q0D _ (q0I (by rw[<- S];exact c)));have Y:∀p,p∈bb.toList->p∈a₀.toList:=λp c=>m p (q0C _ (q0H (by rw[<- R];exact c)));have U:aa.toList.Pairwise (gO r):=by rw[S];exact sx.sublist (List.drop_sublist _ _)
   have T:bb.toList.Pairwise (gO r):=by rw[R];exact sy.sublist (List.take_sublist _ _)
   have fin:∀(l:PA) (st':SortSt),kindOf st'=kd->arrOf st'=arrOf st->(pendingOf st').toList=p1++(u.length,x.length+(d::g).length,pw)::p2->failedOf st'=none->iU r aa bb l ->
     Q true (setArr st' (l.toList.zipIdx.foldl (λa (x:Keyed×Nat)=>a.setIfInBounds (u.length+k+x.2) x.1) (arrOf st'))):=by
    intro l st' k' a' p' O good;have i:=good.2;rw[S,R]at i;have ll:=i.length_eq;rw[K3,Lh,Lg,Lv hn]at ll;have ez:(l.toList.zipIdx.foldl (λa (x:Keyed×Nat)=>a.setIfInBounds (u.length+k+x.2) x.1) (arrOf st')).toList=u++((x.take k++l.toList++(d::g).drop n)++v):=by
     rw[ya (u.length+k) l.toList 0 _ (by rw[a'];omega),a',ha,ll];rw[show u.length+k+0=u.length+k by omega,List.take_length_add_append,List.take_append_of_le_length hk,
      show u.length+k+(x.length-k+n)=u.length+(x.length+n) by omega,List.drop_length_add_append,List.drop_length_add_append,List.drop_append_of_le_length hn]
     simp only[Ld]
    have zp:(x.take k++l.toList++(d::g).drop n).Perm (x++(d::g)):=by
     refine((i.append_left (x.take k)).append_right _).trans ?_;rw[<- Ld,List.take_append_drop,Ld,List.take_append_drop]
    refine h _ (x.take k++l.toList++(d::g).drop n) ⟨?_,k',O⟩ p' ez zp ?_
    ·have pz:(u++((x.take k++l.toList++(d::g).drop n)++v)).Perm a₀.toList:=by
      refine List.Perm.trans ?_ (show((arrOf st).toList).Perm _ from B.perm);rw[ha];refine List.Perm.append_left u ?_;rw[<- Ld x];exact zp.append_right v
     rw[<- ez]at pz;exact pz
    ·have ml:∀p,p∈l.toList->p∈x.drop k\/p∈(d::g).take n:=λp c=>KR.mp (i.mem_iff.mp c)
     refine List.pairwise_append.mpr ⟨List.pairwise_append.mpr ⟨sx.sublist (List.take_sublist _ _),good.1,λp c q hq=>?_⟩,sy.sublist (List.drop_sublist _ _),λp c q hq=>?_⟩
     ·rcases ml q hq with q1 | q1
      ·exact K' (g1 p c) (q0P (g2 q q1))
      ·exact K' (g1 p c) (hd q (q0H q1))
     ·rcases KR.mp c with q1 | q1
      ·exact K' (lst p (q0H q1)) (g4 q hq)
      ·rcases ml p q1 with q2 | q2
       ·exact K' (lst p (q0I q2)) (g4 q hq)
       ·exact K' (q0P (g3 p q2)) (g4 q hq)
   split
   ·refine aA (yI (a:=aa) (b:=bb) ⟨C,Z,Y,U,T,hl⟩ (by exact B.kind) h0 ⋯ ⋯ λl st' L good=>?_)
    refine aA (dk (aA (gN (aF ?_))));have O:failedOf st'=none:=L.2.2.2.trans B.failed;have:=fin l st' (L.1.trans B.kind) L.2.1 (by rw[L.2.2.1];exact j) O good;show Q (failedOf st').isNone _;rw[O];exact this
   ·refine aA (zM (a:=aa) (b:=bb) ⟨C,Z,Y,U,T,h0⟩ (by exact B.kind) (by simpa using hl) ⋯ ⋯ λl st' L good=>?_)
    refine aA (dk (aA (gN (aF ?_))));have O:failedOf st'=none:=L.2.2.2.trans B.failed;have:=fin l st' (L.1.trans B.kind) L.2.1 (by rw[L.2.2.1];exact j) O good;show Q (failedOf st').isNone _;rw[O];exact this
end
abbrev As:=Option (Option Nat)×Nat
abbrev Ds:=Option (Option Nat)×Nat×Nat
def FB(lo a n:Nat):SM As:=forIn [a:n] ((none,a):As) λ_ s=>ltAt' (lo+s.2) (lo+s.2-1) >>= λt=>match t with
 |some t=>if t=true then pure (.done (none,s.2)) else pure (.yield (none,s.2+1))
 |_=>pure (.done (some none,s.2))
def D0(lo m n:Nat):SM (Option Nat):=reverseSlice' lo (lo+m) >>= λ_=>FB lo m n >>= λs=>match s.1 with
 |some z=>pure z
 |none=>pure (some s.2)
def GH(lo m n:Nat):SM Ds:=forIn [m:n] ((none,m,0):Ds) λ_ s=>ltAt' (lo+s.2.1) (lo+s.2.1-1) >>= λt=>match t with
 |some t=>if t=true then
   if s.2.2>0 then reverseSlice' (lo+s.2.1-(s.2.2+1)) (lo+s.2.1) >>= λ_=>pure (.yield (none,s.2.1+1,0)) else pure (.yield (none,s.2.1+1,0))
  else ltAt' (lo+s.2.1-1) (lo+s.2.1) >>= λt=>match t with
   |some t=>if t=true then pure (.done (none,s.2.1,s.2.2)) else pure (.yield (none,s.2.1+1,s.2.2+1))
   |_=>pure (.done (some none,s.2.1,s.2.2))
 |_=>pure (.done (some none,s.2.1,s.2.2))
def FC(lo m n:Nat):SM (Option Nat):=liftM (rule "list.sort.descending-run") >>= λ_=>GH lo (m+1) n >>= λs=>match s.1 with
 |some z=>pure z
 |none=>if s.2.2>0 then reverseSlice' (lo+s.2.1-(s.2.2+1)) (lo+s.2.1) >>= λ_=>D0 lo s.2.1 n else D0 lo s.2.1 n
def A3(lo n:Nat):SM (Option Nat):=FB lo 1 n >>= λs=>match s.1 with
 |some z=>pure z
 |none=>if(s.2==n)=true then pure (some s.2) else if s.2>1 then ltAt' lo (lo+s.2-1) >>= λt=>match t with
   |some t=>if t=true then pure (some s.2) else reverseSlice' lo (lo+s.2) >>= λ_=>FC lo s.2 n
   |_=>pure none
  else FC lo s.2 n
theorem kO{β:Type}{rg:Std.Legacy.Range}{c:β}{f g:Nat->β->SM (ForInStep β)}(h:∀x s,f x s=g x s):(forIn rg c f:SM β)=forIn rg c g:=by
 rw[show f=g from funext λx=>funext λs=>h x s]
theorem tu(lo m n:Nat){f:As->SM (Option Nat)}(h:∀s,f s=match s.1 with | some z=>pure z | none=>pure (some s.2)){F:Nat->As->SM (ForInStep As)}
  (hF:∀x s,F x s=(ltAt' (lo+s.2) (lo+s.2-1) >>= λt=>match t with
   |some t=>if t=true then pure (.done (none,s.2)) else pure (.yield (none,s.2+1))
   |_=>pure (.done (some none,s.2)))):(reverseSlice' lo (lo+m) >>= λ_=>(forIn [m:n] ((none,m):As) F:SM As) >>= f)=D0 lo m n:=by
 unfold D0 FB;exact aV rfl λ_=>aV (kO hF) h
theorem vx(lo n:Nat):countRun' lo n=A3 lo n:=by
 have a:∀(m:Nat) {G:Ds->SM (Option Nat)} {F:Nat->Ds->SM (ForInStep Ds)},
   (∀s:Ds,G s=match s.1 with
    |some z=>pure z
    |none=>if s.2.2>0 then reverseSlice' (lo+s.2.1-(s.2.2+1)) (lo+s.2.1) >>= λ_=>D0 lo s.2.1 n else D0 lo s.2.1 n) ->
   (∀x s,F x s=(ltAt' (lo+s.2.1) (lo+s.2.1-1) >>= λt=>match t with
    |some t=>if t=true then
      if s.2.2>0 then reverseSlice' (lo+s.2.1-(s.2.2+1)) (lo+s.2.1) >>= λ_=>pure (.yield (none,s.2.1+1,0)) else pure (.yield (none,s.2.1+1,0))
     else ltAt' (lo+s.2.1-1) (lo+s.2.1) >>= λt=>match t with
      |some t=>if t=true then pure (.done (none,s.2.1,s.2.2)) else pure (.yield (none,s.2.1+1,s.2.2+1))
      |_=>pure (.done (some none,s.2.1,s.2.2))
    |_=>pure (.done (some none,s.2.1,s.2.2)))) ->
   ((liftM (rule "list.sort.descending-run"):SM Unit) >>= λ_=>(forIn [m+1:n] ((none,m+1,0):Ds) F:SM Ds) >>= G)=FC lo m n:=by
  intro m G F b c;unfold FC GH;exact aV rfl λ_=>aV (kO c) b
 unfold A3 FB;refine aV (kO λx s=>rfl) λs=>?_;obtain⟨z,m⟩:=s;cases z with
 |some z=>rfl
 |none=>
  refine dY rfl (dY (aV rfl λt=>?_) ?_)
  ·cases t with
   |none=>rfl
   |some t=>
    refine dY rfl (aV rfl λ_=>a m (λs=>?_) λx s=>rfl);obtain⟨z,m,q⟩:=s;cases z with
    |some z=>rfl
    |none=>exact dY (aV rfl λ_=>tu lo m n (λs=>by obtain⟨z,m⟩:=s;cases z<;>rfl) λx s=>rfl) (tu lo m n (λs=>by obtain⟨z,m⟩:=s;cases z<;>rfl) λx s=>rfl)
  ·refine a m (λs=>?_) λx s=>rfl
   obtain⟨z,m,q⟩:=s;cases z with
   |some z=>rfl
   |none=>exact dY (aV rfl λ_=>tu lo m n (λs=>by obtain⟨z,m⟩:=s;cases z<;>rfl) λx s=>rfl) (tu lo m n (λs=>by obtain⟨z,m⟩:=s;cases z<;>rfl) λx s=>rfl)
section
variable {prog:LH}{w:LK}{A:LJ}{E:Lx}{J:Shared->Prop}{a₀:Array Keyed}{kd:SortKind}{r:Keyed->Nat}
def Kr(r:Keyed->Nat)(xs:PA)(i:Nat):Nat:=match xs[i]? with
 |some p=>r p
 |none=>0
theorem uJ{xs ys:PA}{i j:Nat}(h:xs[i]?=ys[j]?):Kr r xs i=Kr r ys j:=by unfold Kr;rw[h]
def Up(r:Keyed->Nat)(xs:PA)(lo n:Nat):Prop:=∀i j,i<=j->j<n->Kr r xs (lo+i)<=Kr r xs (lo+j)
def Dn(r:Keyed->Nat)(xs:PA)(lo n:Nat):Prop:=∀i j,i<=j->j<n->Kr r xs (lo+j)<=Kr r xs (lo+i)
structure KB(a₀:PA)(kd:SortKind)(lo:Nat)(st₀ st:SortSt):Prop where
 sb:SB a₀ kd st
 pe:pendingOf st=pendingOf st₀
 be:∀i,i<lo->(arrOf st)[i]?=(arrOf st₀)[i]?
theorem SB.size{st:SortSt}(h:SB a₀ kd st):(arrOf st).size=a₀.size:=by simpa using h.perm.length_eq
theorem KB.set{lo:Nat}{st₀ st:SortSt}(h:KB a₀ kd lo st₀ st){xs:PA}(hp:xs.Perm (arrOf st))(hb:∀i,i<lo->xs[i]?=(arrOf st)[i]?):KB a₀ kd lo st₀ (setArr st xs):=
 ⟨⟨(Array.perm_iff_toList_perm.mp hp).trans h.sb.perm,h.sb.kind,h.sb.failed⟩,h.pe,λi hi=>(hb i hi).trans (h.be i hi)⟩
theorem um(C:Cmp prog w A J a₀ kd r){st:SortSt}(B:SB a₀ kd st){i j:Nat}(hi:i<a₀.size)(hj:j<a₀.size){Q:Option Bool->SortSt->Prop}
  (h:Q (some (decide (Kr r (arrOf st) i<Kr r (arrOf st) j))) st):fw b⁻¹ A E J (ltAt' i j) Q st:=by
 have a:∀k,k<a₀.size->∃p,(arrOf st)[k]?=some p/\p∈a₀.toList:=λk g=>by
  have b:k<(arrOf st).size:=by rw[B.size];exact g
  exact⟨(arrOf st)[k],getElem?_pos _ k b,B.perm.mem_iff.mp (by simp)⟩
 obtain⟨p,d,m1⟩:=a i hi;obtain⟨q,c,e⟩:=a j hj;rw[ltAt'_eq];refine aA (gN (aA (cH d (aA (cH c (Bf C m1 e B.kind ?_))))));unfold Kr at h;rw[d,c]at h;exact h
theorem kW{xs:PA}{j:Nat}(hj:j<=xs.size)(k:Nat):Kr r (mirror xs i j ((j-i)/2)) k=if i<=k/\k<j then Kr r xs (i+j-1-k) else Kr r xs k:=by
 have e:=getElem?_mirror_all (i:=i) hj k
 by_cases h1:i<=k/\k<j
 ·rw[q07 h1]at e ⊢;exact uJ e
 ·rw[q06 h1]at e ⊢;exact uJ e
theorem dr{xs:PA}{i j:Nat}(hj:j<=xs.size)(heq:∀k,i<=k->k<j->Kr r xs k=Kr r xs (j-1))(k:Nat):Kr r (mirror xs i j ((j-i)/2)) k=Kr r xs k:=by
 rw[kW hj]
 split
 ·rw[heq _ ⋯ ⋯,heq k ⋯ ⋯]
 ·rfl
theorem yc{lo i j:Nat}{st₀ st:SortSt}(B:KB a₀ kd lo st₀ st)(hi:lo<=i)(hj:j<=a₀.size){Q:Unit->SortSt->Prop}
  (h:KB a₀ kd lo st₀ (setArr st (mirror (arrOf st) i j ((j-i)/2)))->Q () (setArr st (mirror (arrOf st) i j ((j-i)/2)))):fw b⁻¹ A E J (reverseSlice' i j) Q st:=by
 rw[reverseSlice'_eq];refine dk (h (B.set (mirror_perm _ _ _ _) λk hk=>?_));rw[getElem?_mirror_all (by rw[B.sb.size];exact hj),q06 ⋯]
theorem Ei(C:Cmp prog w A J a₀ kd r){st:SortSt}(B:SB a₀ kd st){lo a n:Nat}{Q:As->SortSt->Prop}(hn:lo+n<=a₀.size)(ha:1<=a)(han:a<=n)(hs:Up r (arrOf st) lo a)
  (h:∀m,a<=m->m<=n->Up r (arrOf st) lo m->(m=n\/Kr r (arrOf st) (lo+m)<Kr r (arrOf st) (lo+m-1))->Q (none,m) st):fw b⁻¹ A E J (FB lo a n) Q st:=by
 unfold FB;refine eS (I:=λx c d=>d=st/\c=(none,x)/\Up r (arrOf st) lo x) ?s ?e ⟨rfl,rfl,hs⟩
 case e=>
  rintro c d ⟨rfl,rfl,b⟩;rw[show max a n=n by omega]at b ⊢;exact h n han (K4 _) b (.inl rfl)
 case s=>
  rintro x c d q hxn ⟨rfl,rfl,b⟩;dsimp only;refine aA (um C B ⋯ ⋯ ?_)
  by_cases g:Kr r (arrOf d) (lo+x)<Kr r (arrOf d) (lo+x-1)
  ·simp only[g,decide_true,if_true]
   exact aF (h x q ⋯ b (.inr g))
  ·simp only[g,decide_false,q0a,if_false]
   refine aF ⟨rfl,rfl,λi j o hj=>?_⟩
   by_cases k:j<x
   ·exact b i j o k
   ·have l:j=x:=by omega
    subst l
    by_cases p:i=j
    ·subst p;exact K4 _
    ·have:=b i (j-1) ⋯ ⋯
     rw[show lo+(j-1)=lo+j-1 by omega]at this;omega
theorem D3(C:Cmp prog w A J a₀ kd r){st₀ st:SortSt}{lo m n:Nat}(B:KB a₀ kd lo st₀ st){Q:Option Nat->SortSt->Prop}(hn:lo+n<=a₀.size)(h1:1<=m)(hm:m<=n)(hs:Dn r (arrOf st) lo m)
  (h:∀k st',KB a₀ kd lo st₀ st'->1<=k->k<=n->Up r (arrOf st') lo k->Q (some k) st'):fw b⁻¹ A E J (D0 lo m n) Q st:=by
 unfold D0;have a:lo+m<=(arrOf st).size:=by rw[B.sb.size];omega
 refine aA (yc B (K4 _) ⋯ λb=>?_);refine aA (Ei C b.sb hn h1 hm (λi j hij hj=>?_) λk k1 d c _=>aF (h k _ b ⋯ d c));show Kr r (mirror (arrOf st) lo (lo+m) ((lo+m-lo)/2)) (lo+i)<=Kr r (mirror (arrOf st) lo (lo+m) ((lo+m-lo)/2)) (lo+j);rw[kW a,kW a,q07 ⋯,q07 ⋯];have:=hs (m-1-j) (m-1-i) ⋯ ⋯;rw[show lo+(lo+m)-1-(lo+i)=lo+(m-1-i) by omega,show lo+(lo+m)-1-(lo+j)=lo+(m-1-j) by omega];exact this
theorem F0(C:Cmp prog w A J a₀ kd r){st₀ st:SortSt}{lo m n:Nat}(B:KB a₀ kd lo st₀ st){Q:Ds->SortSt->Prop}(hn:lo+n<=a₀.size)(h1:1<=m)(hm:m<=n)(hs:Dn r (arrOf st) lo m)
  (h:∀k q st',KB a₀ kd lo st₀ st'->m<=k->k<=n->Dn r (arrOf st') lo k->q+1<=k->(∀i,k-(q+1)<=i->i<k->Kr r (arrOf st') (lo+i)=Kr r (arrOf st') (lo+k-1))->Q (none,k,q) st') :
  fw b⁻¹ A E J (GH lo m n) Q st:=by
 unfold GH;refine eS (I:=λx c st'=>∃q,c=(none,x,q)/\KB a₀ kd lo st₀ st'/\Dn r (arrOf st') lo x/\q+1<=x/\(∀i,x-(q+1)<=i->i<x->Kr r (arrOf st') (lo+i)=Kr r (arrOf st') (lo+x-1))) ?s ?e
  ⟨0,rfl,B,hs,⋯,λi h1 h2=>by congr 1;omega⟩
 case e=>
  rintro c st' ⟨q,rfl,d,a,o,g⟩;rw[show max m n=n by omega]at a o g ⊢;exact h n q st' d hm (K4 _) a o g
 case s=>
  rintro x c st' M hxn ⟨q,rfl,d,a,o,g⟩;dsimp only;have S:lo+x<=(arrOf st').size:=by rw[d.sb.size];omega
  have L:∀k,lo+x-(q+1)<=k->k<lo+x->Kr r (arrOf st') k=Kr r (arrOf st') (lo+x-1):=λk k1 k2=>by
   have:=g (k-lo) ⋯ ⋯
   rwa [show lo+(k-lo)=k by omega]at this
  have b:∀{u:PA},(∀k,Kr r u k=Kr r (arrOf st') k)->Kr r (arrOf st') (lo+x)<=Kr r (arrOf st') (lo+x-1)->Dn r u lo (x+1):=by
   intro u O hle i j D hj;rw[O,O]
   by_cases v:j<x
   ·exact a i j D v
   ·have y:j=x:=by omega
    subst y
    by_cases G:i=j
    ·subst G;exact K4 _
    ·have:=a i (j-1) ⋯ ⋯
     rw[show lo+(j-1)=lo+j-1 by omega]at this;omega
  refine aA (um C d.sb ⋯ ⋯ ?_)
  by_cases p:Kr r (arrOf st') (lo+x)<Kr r (arrOf st') (lo+x-1)
  ·simp only[p,decide_true,if_true]
   by_cases l:q>0
   ·rw[q07 l]
    refine aA (yc d ⋯ ⋯ λU=>aF ⟨0,rfl,U,b (dr S L) (q0P p),⋯,λi h1 h2=>by congr 1;omega⟩)
   ·rw[q06 l]
    exact aF ⟨0,rfl,d,b (λ_=>rfl) (q0P p),⋯,λi h1 h2=>by congr 1;omega⟩
  ·simp only[p,decide_false,q0a,if_false]
   refine aA (um C d.sb ⋯ ⋯ ?_)
   by_cases R:Kr r (arrOf st') (lo+x-1)<Kr r (arrOf st') (lo+x)
   ·simp only[R,decide_true,if_true]
    exact aF (h x q st' d M ⋯ a o g)
   ·simp only[R,decide_false,q0a,if_false]
    have T:Kr r (arrOf st') (lo+x)=Kr r (arrOf st') (lo+x-1):=by omega
    refine aF ⟨q+1,rfl,d,b (λ_=>rfl) ⋯,⋯,λi h1 h2=>?_⟩;rw[show lo+(x+1)-1=lo+x by omega]
    by_cases z:i=x
    ·subst z;rfl
    ·rw[T];exact g i ⋯ ⋯
theorem D6(C:Cmp prog w A J a₀ kd r){st₀ st:SortSt}{lo m n:Nat}(B:KB a₀ kd lo st₀ st){Q:Option Nat->SortSt->Prop}(hn:lo+n<=a₀.size)(hm:m+1<=n)(hs:Dn r (arrOf st) lo (m+1))
  (h:∀k st',KB a₀ kd lo st₀ st'->1<=k->k<=n->Up r (arrOf st') lo k->Q (some k) st'):fw b⁻¹ A E J (FC lo m n) Q st:=by
 unfold FC;refine aA (jL λs j=>wpAny_rule ⟨j,?_⟩);refine aA (F0 C B hn ⋯ hm hs λk q st' g o d a hq u=>?_);dsimp only;have l:lo+k<=(arrOf st').size:=by rw[g.sb.size];omega
 by_cases b:q>0
 ·rw[q07 b]
  refine aA (yc g ⋯ ⋯ λv=>D3 C v hn ⋯ d (λi j e p=>?_) h);have c:∀t,lo+k-(q+1)<=t->t<lo+k->Kr r (arrOf st') t=Kr r (arrOf st') (lo+k-1):=λt o d=>by
   have:=u (t-lo) ⋯ ⋯
   rwa [show lo+(t-lo)=t by omega]at this
  show Kr r (mirror (arrOf st') _ _ _) _<=Kr r (mirror (arrOf st') _ _ _) _;rw[dr l c,dr l c];exact a i j e p
 ·rw[q06 b]
  exact D3 C g hn ⋯ d a h
theorem wL(C:Cmp prog w A J a₀ kd r){st:SortSt}{lo n:Nat}(B:SB a₀ kd st){Q:Option Nat->SortSt->Prop}(hn:lo+n<=a₀.size)(h1:1<=n)
  (h:∀k st',KB a₀ kd lo st st'->1<=k->k<=n->Up r (arrOf st') lo k->Q (some k) st'):fw b⁻¹ A E J (countRun' lo n) Q st:=by
 rw[vx];unfold A3
 have e:KB a₀ kd lo st st:=⟨B,rfl,λ_ _=>rfl⟩;refine aA (Ei C B hn (K4 1) h1 (λi j c x=>by
  have:i=j:=by omega
  subst this;exact K4 _) λm m1 u d g=>?_)
 dsimp only
 by_cases q:m=n
 ·rw[q07 (by rw[q];exact beq_self_eq_true n)]
  exact aF (h m st e m1 u d)
 ·rw[q06 (by simpa using q)]
  have b:=g.resolve_left q
  by_cases y:m>1
  ·rw[q07 y]
   refine aA (um C B ⋯ ⋯ ?_)
   by_cases hr:Kr r (arrOf st) lo<Kr r (arrOf st) (lo+m-1)
   ·simp only[hr,decide_true,if_true]
    exact aF (h m st e m1 u d)
   ·simp only[hr,decide_false,q0a,if_false]
    have v:lo+m<=(arrOf st).size:=by rw[B.size];omega
    have all:∀k,lo<=k->k<lo+m->Kr r (arrOf st) k=Kr r (arrOf st) (lo+m-1):=λk k1 k2=>by
     have D:=d 0 (k-lo) ⋯ ⋯;have z:=d (k-lo) (m-1) ⋯ ⋯;rw[show lo+(k-lo)=k by omega]at D z;rw[show lo+(m-1)=lo+m-1 by omega]at z;rw[show lo+0=lo by omega]at D;omega
    refine aA (yc e (K4 _) ⋯ λI=>D6 C I hn ⋯ (λi j c x=>?_) h);show Kr r (mirror (arrOf st) _ _ _) _<=Kr r (mirror (arrOf st) _ _ _) _;rw[dr v all,dr v all]
    by_cases hjn:j<m
    ·rw[all (lo+i) ⋯ ⋯,all (lo+j) ⋯ ⋯];exact K4 _
    ·have o:j=m:=by omega
     subst o
     by_cases a:i=j
     ·subst a;exact K4 _
     ·rw[all (lo+i) ⋯ ⋯];exact q0P b
  ·rw[q06 y]
   have G:m=1:=by omega
   subst G;refine D6 C e hn ⋯ (λi j c x=>?_) h
   by_cases a:i=j
   ·subst a;exact K4 _
   ·have p:i=0:=by omega
    have l:j=1:=by omega
    subst p;subst l
    exact q0P b
theorem qk{xs:PA}{src d:Nat}(hs:src<xs.size)(hd:d<=src)(k:Nat) :
  Kr r (bubble xs src d) k=if k=src-d then Kr r xs src else if src-d<k/\k<=src then Kr r xs (k-1) else Kr r xs k:=by
 have e:=getElem?_bubble hs d hd k
 by_cases h1:k=src-d
 ·rw[q07 h1]at e ⊢;exact uJ e
 ·rw[q06 h1]at e ⊢
  by_cases h2:src-d<k/\k<=src
  ·rw[q07 h2]at e ⊢;exact uJ e
  ·rw[q06 h2]at e ⊢;exact uJ e
theorem Gc(C:Cmp prog w A J a₀ kd r){st₀ st:SortSt}{lo n ok:Nat}(B:KB a₀ kd lo st₀ st){Q:Bool->SortSt->Prop}(hn:lo+n<=a₀.size)(hok:ok<=n)(hs:Up r (arrOf st) lo ok)
  (h:∀st',KB a₀ kd lo st₀ st'->Up r (arrOf st') lo n->Q true st'):fw b⁻¹ A E J (binarySort' lo n ok) Q st:=by
 rw[binarySort'_eq];refine aA (bZ (eS (I:=λk c st'=>c=(none,())/\KB a₀ kd lo st₀ st'/\Up r (arrOf st') lo (min k n)) (Q:=λc st'=>c=(none,())/\KB a₀ kd lo st₀ st'/\Up r (arrOf st') lo n) ?s ?e ?i) ?p)
 case p=>
  rintro c st' ⟨rfl,d,b⟩;exact aF (h st' d b)
 case i=>
  refine⟨rfl,B,λi j o G=>?_⟩
  by_cases h1:ok=0
  ·have:i=j:=by omega
   subst this;exact K4 _
  ·exact hs i j o ⋯
 case e=>
  rintro c st' ⟨M,d,b⟩;refine⟨M,d,?_⟩
  rwa [show min (max (max ok 1) n) n=n by omega]at b
 case s=>
  rintro k c st' hak hkn ⟨rfl,d,b⟩;rw[show min k n=k by omega]at b;refine aA (bZ (eS (I:=λx c a=>a=st'/\∃l u,c=(none,l,u)/\l<=u/\u<=k/\u-l<=k-x /\
    (∀i,i<l->Kr r (arrOf st') (lo+i)<=Kr r (arrOf st') (lo+k))/\(∀i,u<=i->i<k->Kr r (arrOf st') (lo+k)<Kr r (arrOf st') (lo+i)))
   (Q:=λc a=>a=st'/\∃l u,c=(none,l,u)/\l<=k /\
    (∀i,i<l->Kr r (arrOf st') (lo+i)<=Kr r (arrOf st') (lo+k))/\(∀i,l<=i->i<k->Kr r (arrOf st') (lo+k)<Kr r (arrOf st') (lo+i))) ?s2 ?e2 ?i2) ?p2)
  case i2=>exact⟨rfl,0,k,rfl,⋯,⋯,⋯,λi L=>by omega,λi h1 h2=>by omega⟩
  case e2=>
   rintro c a ⟨rfl,l,u,rfl,h1,h2,O,m,g⟩;have:l=u:=by omega
   subst this;exact⟨rfl,l,l,rfl,h2,m,g⟩
  case s2=>
   rintro x c a _ hxk ⟨rfl,l,u,rfl,h1,h2,O,m,g⟩;dsimp only
   by_cases z:l≥u
   ·rw[q07 z]
    have:l=u:=by omega
    subst this;exact aF ⟨rfl,l,l,rfl,h2,m,g⟩
   ·rw[q06 z]
    refine aA (um C d.sb ⋯ ⋯ ?_)
    by_cases q:Kr r (arrOf a) (lo+k)<Kr r (arrOf a) (lo+(l+u)/2)
    ·simp only[q,decide_true,if_true]
     exact aF ⟨rfl,l,(l+u)/2,rfl,⋯,⋯,⋯,m,λi y D=>KZ q (b _ _ y D)⟩
    ·simp only[q,decide_false,q0a,if_false]
     exact aF ⟨rfl,(l+u)/2+1,u,rfl,⋯,⋯,⋯,λi y=>K' (b i ((l+u)/2) ⋯ ⋯) (Nat.not_lt.mp q),g⟩
  case p2=>
   rintro c a ⟨rfl,l,u,rfl,h2,m,g⟩;show fw _ _ _ _ (moveDown' (lo+k) (lo+l) >>= λ_=>pure (ForInStep.yield (none,()))) _ _;rw[moveDown'_eq];have v:lo+k<(arrOf a).size:=by rw[d.sb.size];omega
   refine aA (dk (aF ⟨rfl,d.set (bubble_perm _ _ _) λi L=>?_,?_⟩))
   ·rw[getElem?_bubble v _ ⋯,q06 ⋯,q06 ⋯]
   ·rw[show min (k+1) n=k+1 by omega]
    intro i j o G;show Kr r (bubble (arrOf a) (lo+k) (lo+k-(lo+l))) (lo+i)<=Kr r (bubble (arrOf a) (lo+k) (lo+k-(lo+l))) (lo+j);rw[qk v ⋯,qk v ⋯,show lo+k-(lo+k-(lo+l))=lo+l by omega]
    repeat' split
    all_goals first
     | (exfalso;omega)
     |exact K4 _
     |exact m _ ⋯
     | (rw[show lo+j-1=lo+(j-1) by omega];exact q0P (g _ ⋯ ⋯))
     | (rw[show lo+i-1=lo+(i-1) by omega,show lo+j-1=lo+(j-1) by omega];exact b _ _ ⋯ ⋯)
     | (rw[show lo+j-1=lo+(j-1) by omega];exact b _ _ ⋯ ⋯)
     |exact b _ _ ⋯ ⋯
theorem CI{xs:PA}{lo n:Nat}(hz:lo+n<=xs.size)(h:Up r xs lo n):((xs.toList.drop lo).take n).Pairwise (gO r):=by
 rw[List.pairwise_iff_getElem];intro i j g d c;have e:j<n:=by simp at d;omega
 have a:∀k (b:k<((xs.toList.drop lo).take n).length),Kr r xs (lo+k)=r ((xs.toList.drop lo).take n)[k]:=by
  intro k b;unfold Kr;rw[AT (n:=n) (by simpa using hz) (by simp at b;omega),Kz b]
 have:=h i j (q0P c) e;rw[a i g,a j d]at this;exact this
theorem KB.split{lo n:Nat}{st₀ st:SortSt}(B:KB a₀ kd lo st₀ st){u:List Keyed}{v:List Keyed}(e:(arrOf st₀).toList=u++v)(hu:u.length=lo)(hn:lo+n<=a₀.size)(hs:Up r (arrOf st) lo n) :
  ∃x v',(arrOf st).toList=u++(x++v')/\x.length=n/\x.Pairwise (gO r):=by
 have b:lo+n<=(arrOf st).size:=by rw[B.sb.size];exact hn
 refine⟨((arrOf st).toList.drop lo).take n,(arrOf st).toList.drop (lo+n),?_,by simp;omega,CI b hs⟩;have c:(arrOf st).toList.take lo=u:=by
  apply List.ext_getElem?;intro i
  by_cases a:i<lo
  ·rw[List.getElem?_take,q07 a,q0G,B.be i a,<- q0G,e,K2 ⋯]
  ·rw[List.getElem?_take,q06 a,List.getElem?_eq_none ⋯]
 rw[<- List.drop_drop,List.take_append_drop,<- c,List.take_append_drop]
abbrev Pd:=Nat×Nat×Nat
def fG(r:Keyed->Nat):List Pd->List (List Keyed)->Nat->Prop
 | [],rs,_=>rs=[]
 |e::p,rs,k=>∃x rs',rs=x::rs'/\e.1=k/\e.2.1=x.length/\x≠[]/\x.Pairwise (gO r)/\fG r p rs' (k+x.length)
theorem fG.app:∀{p q:List Pd} {rs:List (List Keyed)} {k:Nat},fG r (p++q) rs k↔∃r1 r2,rs=r1++r2/\fG r p r1 k/\fG r q r2 (k+r1.flatten.length)
 | [],q,rs,k=>by
  constructor
  ·exact λh=>⟨[],rs,rfl,rfl,by simpa using h⟩
  ·rintro⟨r1,r2,rfl,h1,h2⟩
   cases(show r1=[] from h1)
   simpa using h2
 |e::p,q,rs,k=>by
  constructor
  ·rintro⟨x,rs',rfl,e1,e2,x0,xs,h⟩
   obtain⟨r1,r2,rfl,h1,h2⟩:=fG.app.mp h;exact⟨x::r1,r2,rfl,⟨x,r1,rfl,e1,e2,x0,xs,h1⟩,by rw[List.flatten_cons,K3,<- Nat.add_assoc];exact h2⟩
  ·rintro⟨r1,r2,rfl,⟨x,rs',rfl,e1,e2,x0,xs,h1⟩,h2⟩
   rw[List.flatten_cons,K3,<- Nat.add_assoc]at h2;exact⟨x,rs'++r2,rfl,e1,e2,x0,xs,fG.app.mpr ⟨rs',r2,rfl,h1,h2⟩⟩
theorem fG.many:∀{p:List Pd} {rs:List (List Keyed)} {k:Nat},fG r p rs k->p.length<=rs.flatten.length
 | [],rs,k,h=>by simp
 |e::p,rs,k,h=>by
  obtain⟨x,rs',rfl,e1,e2,x0,xs,h1⟩:=h;have:=fG.many h1;have:=List.length_pos_iff.mpr x0;simp;simp at *;omega
theorem fG.mod{f:Pd->Pd}(hf:∀e,(f e).1=e.1/\(f e).2.1=e.2.1):∀{p:List Pd} {i:Nat} {rs:List (List Keyed)} {k:Nat},fG r p rs k->fG r (p.modify i f) rs k
 | [],i,rs,k,h=>by simpa using h
 |e::p,0,rs,k,h=>by
  obtain⟨x,rs',rfl,e1,e2,q⟩:=h;rw[List.modify_zero_cons];exact⟨x,rs',rfl,(hf e).1.trans e1,(hf e).2.trans e2,q⟩
 |e::p,i+1,rs,k,h=>by
  obtain⟨x,rs',rfl,e1,e2,x0,xs,q⟩:=h;rw[List.modify_succ_cons];exact⟨x,rs',rfl,e1,e2,x0,xs,fG.mod hf q⟩
structure RI(a₀:PA)(kd:SortKind)(r:Keyed->Nat)(st:SortSt)(lo:Nat)(ci:List Keyed):Prop where
 sb:SB a₀ kd st
 ex:∃rs,(arrOf st).toList=rs.flatten++ci/\rs.flatten.length=lo/\fG r (pendingOf st).toList rs 0
theorem Ca{α:Type}{l:List α}{i:Nat}(h:i+1<l.length):∃p1 e1 e2 p2,l=p1++e1::e2::p2/\p1.length=i:=by
 refine⟨l.take i,l[i],l[i+1],l.drop (i+2),?_,by simp;omega⟩;have e1:=q0T (l:=l) (i:=i) ⋯;have e2:=q0T (l:=l) (i:=i+1) ⋯;rw[show i+2=i+1+1 by omega,<- e2,<- e1,List.take_append_drop]
theorem ly(C:Cmp prog w A J a₀ kd r){st:SortSt}{lo i:Nat}{ci:List Keyed}(R:RI a₀ kd r st lo ci)(hi:i+1<(pendingOf st).size){Q:Bool->SortSt->Prop}
  (h:∀st',RI a₀ kd r st' lo ci->(pendingOf st').size+1=(pendingOf st).size->Q true st'):fw b⁻¹ A E J (mergeAt' i) Q st:=by
 obtain⟨B,rs,S,O,hr⟩:=R;obtain⟨p1,U,T,p2,d,rfl⟩:=Ca (l:=(pendingOf st).toList) (i:=i) (by simpa using hi);rw[d]at hr;obtain⟨c,r2,rfl,h1,x,r3,rfl,j,p,k,I,y,b,rfl,g,o,D,G,n⟩:=fG.app.mp hr;obtain⟨s1,n1,w1⟩:=U;obtain⟨s2,n2,w2⟩:=T;dsimp only at j p g o;rw[Nat.zero_add]at j g;subst j;subst p;subst g;subst o
 refine zS C B (u:=c.flatten) (x:=x) (y:=y) (v:=b.flatten++ci) d (by rw[S];simp) k D I G λst' z Z m Y a q=>h st' ⟨Z,c++z::b,by rw[Y];simp,?_,?_⟩ ?_
 ·have:=a.length_eq
  simp at this O ⊢;omega
 ·rw[m]
  refine fG.app.mpr ⟨c,z::b,rfl,h1,z,b,rfl,by simp,by have:=a.length_eq;simp at this ⊢;omega,?_,q,?_⟩
  ·intro e
   rw[e]at a;have:=a.length_eq;have:=List.length_pos_iff.mpr k;simp at *;omega
  ·have:=a.length_eq
   rw[K3]at this;rw[this,<- Nat.add_assoc,Nat.zero_add];rw[Nat.zero_add]at n;exact n
 ·have M:=q0R List.length m
  have L:=q0R List.length d;simp at M L;omega
theorem o9(C:Cmp prog w A J a₀ kd r){st:SortSt}{Q:Unit->SortSt->Prop}(B:SB a₀ kd st)(hp:pendingOf st=#[])(h1:1<=a₀.size)
  (h:∀st',SB a₀ kd st'->(arrOf st').toList.Pairwise (gO r)->Q () st'):fw b⁻¹ A E J sortRuns' Q st:=by
 rw[sortRuns'_eq];refine aA (gN ?_);dsimp only;rw[B.size];generalize minRun' a₀.size a₀.size 0=mr;refine aA (bZ (eS (I:=λx c st'=>∃j,c=(none,j)/\x<=j/\j<=a₀.size/\∃ci,RI a₀ kd r st' j ci) (Q:=λc st'=>c=(none,a₀.size)/\∃ci,RI a₀ kd r st' a₀.size ci) ?s ?e ?i) ?p)
 case i=>exact⟨0,rfl,⋯,⋯,(arrOf st).toList,B,[],by simp,rfl,by rw[hp];rfl⟩
 case e=>
  rintro c st' ⟨j,rfl,h2,h3,R⟩;have:j=a₀.size:=by omega
  subst this;exact⟨rfl,R⟩
 case s=>
  rintro x c st' _ hx ⟨j,rfl,h2,h3,ci,R⟩;dsimp only
  by_cases hg:j≥a₀.size
  ·rw[q07 hg]
   have:j=a₀.size:=by omega
   subst this;exact aF ⟨rfl,ci,R⟩
  ·rw[q06 hg]
   refine aA (wL C R.sb ⋯ ⋯ λm g B2 m1 m2 hu=>?_);dsimp only
   -- with a run of n from j on: merges,and the run is put behind the others
   have start:∀n d,KB a₀ kd j st' d->1<=n->n<=a₀.size-j->Up r (arrOf d) j n->∃y v,RI a₀ kd r d j (y++v)/\y.length=n/\y≠[]/\y.Pairwise (gO r):=by
    intro n d L O M k;obtain⟨_,u,D,l,hr⟩:=R;obtain⟨y,v,e,S,o⟩:=L.split D l ⋯ k;refine⟨y,v,⟨L.sb,u,e,l,by rw[L.pe];exact hr⟩,S,?_,o⟩;intro q;subst q;simp at S;omega
   have push:∀n d y v,1<=n->n<=a₀.size-j->RI a₀ kd r d j (y++v)->y.length=n->y≠[]->y.Pairwise (gO r) ->
     ∃lo',((none,j+n):Option Unit×Nat)=(none,lo')/\x+1<=lo'/\lo'<=a₀.size/\∃ci,RI a₀ kd r (setPending d ((pendingOf d).push (j,n,0))) lo' ci:=by
    intro n d y v O M T S U o;obtain⟨L,u,D,l,hr⟩:=T;refine⟨j+n,rfl,⋯,⋯,v,⟨L.perm,L.kind,L.failed⟩,u++[y],?_,?_,?_⟩
    ·show(arrOf d).toList=_
     rw[D];simp
    ·simp at l ⊢;omega
    ·show fG r ((pendingOf d).push (j,n,0)).toList _ _
     rw[Array.toList_push];exact fG.app.mpr ⟨u,[y],rfl,hr,y,[],rfl,by show j=0+_;rw[l];omega,S.symm,U,o,rfl⟩
   by_cases a0:m<mr
   ·rw[q07 a0]
    refine aA (jL λ_ jj=>wpAny_rule ⟨jj,?_⟩);refine aA (Gc C B2 (n:=min (a₀.size-j) mr) ⋯ ⋯ hu λd L k=>?_);rw[q06 (by decide)];have O:1<=min (a₀.size-j) mr:=by omega
    have M:min (a₀.size-j) mr<=a₀.size-j:=by omega
    generalize min (a₀.size-j) mr=n at O M k ⊢;obtain⟨y,v,T,S,U,o⟩:=start n d L O M k;refine aA (gN ?_);cases hb:(pendingOf d).back? with
    |none=>
     dsimp only;exact aA (dk (aF (push n d y v O M T S U o)))
    |some e=>
     obtain⟨s1,l1,w1⟩:=e;dsimp only;refine aA (bZ (eS (I:=λ_ c b=>c=(none,())/\RI a₀ kd r b j (y++v)) (Q:=λc b=>c=(none,())/\RI a₀ kd r b j (y++v)) ?_ (λ_ _ q=>q) ⟨rfl,T⟩) ?_)
     ·rintro z c b _ _ ⟨rfl,G⟩
      refine aA (gN ?_)
      by_cases hz:(pendingOf b).size>1
      ·rw[q07 hz]
       have Y:(pendingOf b).size-2<(pendingOf b).size:=by omega
       rw[getElem?_pos (pendingOf b) _ Y];generalize(pendingOf b)[(pendingOf b).size-2]=e;obtain⟨f1,f2,f3⟩:=e;dsimp only
       split
       ·exact aF ⟨rfl,G⟩
       ·refine aA (ly C G ⋯ λa1 R5 _=>?_)
        rw[q06 (by decide)];exact aF ⟨rfl,R5⟩
      ·rw[q06 hz];exact aF ⟨rfl,G⟩
     ·rintro c b ⟨rfl,G⟩
      dsimp only;refine aA (dk (aA (dk (aF (push n _ y v O M ?_ S U o)))));obtain⟨B4,u,D,l,hr⟩:=G;exact⟨⟨B4.perm,B4.kind,B4.failed⟩,u,D,l,by
       show fG r (Array.modify _ _ _).toList _ _;rw[Array.toList_modify];refine fG.mod ?_ hr;exact λe=>⟨rfl,rfl⟩⟩
   ·rw[q06 a0]
    clear a0
    revert hu m2 m1 B2;revert g m
    intro n d L O M k;obtain⟨y,v,T,S,U,o⟩:=start n d L O M k;refine aA (gN ?_);cases hb:(pendingOf d).back? with
    |none=>
     dsimp only;exact aA (dk (aF (push n d y v O M T S U o)))
    |some e=>
     obtain⟨s1,l1,w1⟩:=e;dsimp only;refine aA (bZ (eS (I:=λ_ c b=>c=(none,())/\RI a₀ kd r b j (y++v)) (Q:=λc b=>c=(none,())/\RI a₀ kd r b j (y++v)) ?_ (λ_ _ q=>q) ⟨rfl,T⟩) ?_)
     ·rintro z c b _ _ ⟨rfl,G⟩
      refine aA (gN ?_)
      by_cases hz:(pendingOf b).size>1
      ·rw[q07 hz]
       have Y:(pendingOf b).size-2<(pendingOf b).size:=by omega
       rw[getElem?_pos (pendingOf b) _ Y];generalize(pendingOf b)[(pendingOf b).size-2]=e;obtain⟨f1,f2,f3⟩:=e;dsimp only
       split
       ·exact aF ⟨rfl,G⟩
       ·refine aA (ly C G ⋯ λa1 R5 _=>?_)
        rw[q06 (by decide)];exact aF ⟨rfl,R5⟩
      ·rw[q06 hz];exact aF ⟨rfl,G⟩
     ·rintro c b ⟨rfl,G⟩
      dsimp only;refine aA (dk (aA (dk (aF (push n _ y v O M ?_ S U o)))));obtain⟨B4,u,D,l,hr⟩:=G;exact⟨⟨B4.perm,B4.kind,B4.failed⟩,u,D,l,by
       show fG r (Array.modify _ _ _).toList _ _;rw[Array.toList_modify];refine fG.mod ?_ hr;exact λe=>⟨rfl,rfl⟩⟩
 case p=>
  rintro c st' ⟨rfl,ci,R⟩;dsimp only;have pz:(pendingOf st').size<=a₀.size:=by
   obtain⟨_,u,_,l,hr⟩:=R;have:=hr.many;simp at this l;omega
  refine aA (bZ (eS (I:=λx c g=>c=(none,())/\RI a₀ kd r g a₀.size ci/\(pendingOf g).size+x<=a₀.size\/c=(none,())/\RI a₀ kd r g a₀.size ci/\(pendingOf g).size<=1)
   (Q:=λc g=>c=(none,())/\RI a₀ kd r g a₀.size ci/\(pendingOf g).size<=1) ?s2 ?e2 (.inl ⟨rfl,R,pz⟩)) ?p2)
  case e2=>
   rintro c g (⟨rfl,R2,q⟩ | ⟨rfl,R2,q⟩)
   ·exact⟨rfl,R2,⋯⟩
   ·exact⟨rfl,R2,q⟩
  case s2=>
   intro x c g _ hx hI;have hc:c=(none,()):=by rcases hI with q | q<;>exact q.1
   have R2:RI a₀ kd r g a₀.size ci:=by rcases hI with q | q<;>exact q.2.1
   refine aA (gN ?_)
   by_cases h2:(pendingOf g).size<=1
   ·rw[q07 h2];exact aF ⟨rfl,R2,h2⟩
   ·rw[q06 h2]
    have q:(pendingOf g).size+x<=a₀.size:=by
     rcases hI with q | q
     ·exact q.2.2
     ·exact q0Q q.2.2 h2
    refine aA (ly C R2 ?_ λd T q3=>?_)
    ·repeat' split
     all_goals omega
    ·rw[q06 (by decide)]
     exact aF (.inl ⟨rfl,T,⋯⟩)
  case p2=>
   rintro c g ⟨rfl,R2,q⟩;refine aF (h g R2.sb ?_);obtain⟨B2,u,D,l,hr⟩:=R2;have lz:(arrOf g).toList.length=a₀.size:=by simpa using B2.size
   have r0:ci=[]:=by
    have:=q0R List.length D;rw[K3]at this;exact Ll.mp ⋯
   subst r0;rw[Lc]at D;rw[D];cases Z:(pendingOf g).toList with
   |nil=>rw[Z]at hr;cases(show u=[] from hr);exact .nil
   |cons e p=>
    rw[Z]at hr;obtain⟨y,a2,rfl,_,_,_,o,q'⟩:=hr;have:p=[]:=by
     have:=q0R List.length Z;exact Ll.mp (by simp at this;omega)
    subst this;cases(show a2=[] from q')
    simpa using o
end
def rk(O:KeyOrd)(f:Keyed->O.α)(l:List Keyed)(p:Keyed):Nat:=l.countP λq=>O.blt (f q) (f p)
theorem uq{α:Type}{f g:α->Bool}:∀{l:List α},(∀x,x∈l->f x=true->g x=true)->(∃x,x∈l/\f x=false/\g x=true)->l.countP f<l.countP g
 | [],_,h=>by obtain⟨x,hx,_⟩:=h;exact nomatch hx
 |x::l,h,⟨y,hy,e1,e2⟩=>by
  rw[List.countP_cons,List.countP_cons];have le:l.countP f<=l.countP g:=List.countP_mono_left λx hx=>h x (KW _ hx);rcases KU.mp hy with rfl | hy
  ·rw[e1,e2];simp;omega
  ·have:=uq (f:=f) (g:=g) (l:=l) (λx hx=>h x (KW _ hx)) ⟨y,hy,e1,e2⟩
   have:=h x (q0B ..);cases hf:f x<;>cases hg:g x<;>simp_all<;>omega
theorem rk_lt{O:KeyOrd}{f:Keyed->O.α}{l:List Keyed}{x:Keyed}(hx:x∈l):O.blt (f x) (f y)=decide (rk O f l x<rk O f l y):=by
 cases h:O.blt (f x) (f y) with
 |true=>
  refine(q09 ?_).symm;exact uq (λz _ a=>O.trans _ _ _ a h) ⟨x,hx,O.irrefl _,h⟩
 |false=>
  refine(q08 (Nat.not_lt.mpr ?_)).symm;refine List.countP_mono_left λz _ a=>?_;rcases O.negTrans _ (f x) _ a with q | q
  ·exact q
  ·rw[h]at q;exact q0Q q (by decide)
theorem GA{O:KeyOrd}{f:Keyed->O.α}{l:List Keyed}{y:Keyed}(hy:y∈l)(h:rk O f l x<=rk O f l y):O.blt (f y) (f x)=false:=by
 rw[rk_lt (f:=f) (l:=l) hy];exact q08 (Nat.not_lt.mpr h)
theorem xR{h:Heap}{a:Addr}{vs:Array Value}(ho:h.get? a=some (seqObj "list" vs n)):∃e1,(h.update a (Obj.mapSeq λ_=>#[])).get? a=some (seqObj "list" #[] e1):=⟨_,get?_update_seq ho _⟩
def sort1(h:Heap)(a:Addr)(vs:LC):Heap:=((h.update a (Obj.mapSeq λ_=>#[])).push (seqObj "tuple" vs.toArray 0)).push (seqObj "list" #[] 0)
section
variable {prog:LH}{w:LK}{A:LJ}{E:Lx}{s:LB}
theorem yU{a:Addr}{vs:LC}{P:Fin->Shared->Prop}{kd:SortKind}(ho:s.heap.get? a=some (seqObj "list" vs.toArray n))(hz:vs.length<=sizeLine)
  (hkk:2<=vs.length->∀{Q:SortKind->Shared->Prop},Q kd {s with heap:=sort1 s.heap a vs}->wpAny b⁻¹ A (keyKind' vs.toArray) Q E {s with heap:=sort1 s.heap a vs})
  (C:2<=vs.length->Cmp prog w A (· = {s with heap:=sort1 s.heap a vs}) (pairsOf vs) kd r)
  (h:∀ps:List Keyed,ps.Perm (vs.zip vs)->ps.Pairwise (gO r)->P (.done (.ret .none)) {s with heap:=sortedHeap s.heap a vs (ps.map (·.2)).toArray}) :
  wpAny b⁻¹ A (Builtin.«list.sort» ⟨[.ref a],[]⟩) P E s:=by
 rw[list_sort_plain];refine q04 (listItems_at ho rfl (q04 (listUpdate_at ho rfl ?_)));obtain⟨o,i⟩:=xR ho;refine q04 (seqEpoch_at i rfl (q04 (wpAny_newTuple (q04 (wpAny_newList (q0Y ?_))))));have c:(sort1 s.heap a vs).get? a=some (seqObj "list" #[] o):=by
  exact KC _ (KC _ i)
 show wpAny b⁻¹ A _ P E {s with heap:=sort1 s.heap a vs};dsimp only;have l:vs.toArray.size=vs.length:=by simp
 have fin:∀d:PA,d.toList.Perm (pairsOf vs).toList->d.toList.Pairwise (gO r)->P (.done (.ret .none)) {s with heap:=sortedHeap s.heap a vs (d.map (·.2))}:=by
  intro d m g;have:=h d.toList (by rw[<- pairsOf_toList];exact m) g
  rwa [show(d.toList.map (·.2)).toArray=d.map (·.2) by rw[<- Array.toList_map]]at this
 by_cases h2:(vs.toArray).size<2
 ·rw[q07 h2,q07 h2]
  refine q04 (q05 ?_);rw[StateT.run_pure];refine q04 (q05 ?_);dsimp only;refine q04 (seqEpoch_at c rfl (q04 (listUpdate_at c rfl ?_ (hsz2:=by rw[Array.size_map];show(pairsOf vs).size<=_;rw[pairsOf_size,q0W];omega))));simp only[bne_self_eq_false,q0a,if_false];refine q05 (fin (vs.toArray.zip vs.toArray) (List.Perm.refl _) ?_);show(pairsOf vs).toList.Pairwise _;rw[pairsOf_toList]
  match vs,l,h2 with
  | [],_,_=>exact .nil
  | [v],_,_=>exact List.pairwise_singleton _ _
  |_::_::_,_,h2=>simp at h2;omega
 ·rw[q06 h2,q06 h2]
  refine q04 (hkk ⋯ ?_);refine q04 (q0X (o9 (a₀:=pairsOf vs) (kd:=kd) (r:=r) (C ⋯) (st:=SortSt.mk' kd (vs.toArray.zip vs.toArray) #[] 7 none)
   (Q:=λ_ b=>SB (pairsOf vs) kd b/\(arrOf b).toList.Pairwise (gO r)) ⟨List.Perm.refl _,rfl,rfl⟩ rfl (by rw[pairsOf_size];omega) (λb k j=>⟨k,j⟩) _ rfl) ?_ λ_ _ e=>e)
  rintro⟨⟨⟩,b⟩ s' ⟨rfl,B,g⟩;dsimp only;refine q04 (seqEpoch_at c rfl (q04 (listUpdate_at c rfl ?_ (hsz2:=by refine K' (Nat.le_of_eq ((Array.size_map ..).trans (B.size.trans (pairsOf_size _)))) ?_;omega))));rw[show failedOf b=none from B.failed];simp only[bne_self_eq_false,q0a,if_false];exact q05 (fin (arrOf b) B.perm g)
end
section
variable {prog:LH}{w:LK}{A:LJ}{E:Lx}{s s2:LB}
abbrev with1(s2:LB)(vs:LC):Heap:=s2.heap.push (seqObj "list" vs.toArray 0)
theorem sorted_call{kd:SortKind}{Q:Lx}
  (hc:∀{Q':List Value->Shared->Prop},Q' vs s2->wpAny b⁻¹ A.in1 (collect v) Q' E s) (hz:vs.length<=sizeLine)
  (hkk:2<=vs.length->∀{Q:SortKind->Shared->Prop},Q kd {s2 with heap:=sort1 (with1 s2 vs) s2.heap.objs.size vs}->wpAny b⁻¹ A.in1.in1 (keyKind' vs.toArray) Q E {s2 with heap:=sort1 (with1 s2 vs) s2.heap.objs.size vs})
  (C:2<=vs.length->Cmp prog w A.in1.in1 (· = {s2 with heap:=sort1 (with1 s2 vs) s2.heap.objs.size vs}) (pairsOf vs) kd r)
  (h:∀ps:List Keyed,ps.Perm (vs.zip vs)->ps.Pairwise (gO r)->Q (.ref s2.heap.objs.size) {s2 with heap:=sortedHeap (with1 s2 vs) s2.heap.objs.size vs (ps.map (·.2)).toArray}) :
  wpAny b⁻¹ A (call (.builtin "sorted") [v]) Q E s:=by
 refine Calls.call_function_entry kind_sorted plain_sorted entry_sorted (args_sorted1 v) ?_;unfold Builtin.«sorted»;refine q04 (m:=checkCount "sorted" 1 1 _) (q05 ?_)
 refine q04 (hc (q04 (wpAny_newList ?_ (hsz:=by omega))));have a:(with1 s2 vs).get? s2.heap.objs.size=some (seqObj "list" vs.toArray 0):=KJ _ rfl;show wpAny _ _ _ _ _ {s2 with heap:=with1 s2 vs};refine q04 (q0Y (wpAny_call_entry slot_list_sort ⟨_,a,rfl⟩ entry_list_sort (yU (s:={s2 with heap:=with1 s2 vs}) a hz hkk C λps c b=>⟨_,rfl,?_⟩) (args_list_sort _)));exact q05 ⟨_,rfl,h ps c b⟩
theorem ranks_out{O:KeyOrd}{f:Keyed->O.α}{ps:List Keyed}(hp:ps.Perm l)(h:ps.Pairwise (gO (rk O f l))):ps.Pairwise λp q=>O.blt (f q) (f p)=false:=by
 have a:∀p,p∈ps->p∈l:=λp c=>hp.mem_iff.mp c;clear hp
 induction ps with
 |nil=>exact .nil
 |cons p ps ih=>
  rw[List.pairwise_cons]at h ⊢;exact⟨λq b=>GA (a q (KW _ b)) (h.1 q b),ih h.2 λq b=>a q (KW _ b)⟩
theorem zip_map2{vs:LC}{ps:List Keyed}(hp:ps.Perm (vs.zip vs)):(ps.map (·.2)).Perm vs/\ps.map (·.2)=ps.map (·.1):=by
 refine⟨(hp.map _).trans (by rw[List.map_snd_zip (K4 _)]),q0K λp a=>((mem_zip_self (hp.mem_iff.mp a)).1).symm⟩
end
end TS
namespace TS
open PySem PyProof.Rows PySem.MeetsSeq PySem.MeetsSeq3
open AutoSeq1 (wpAny_loadPart')
abbrev GG(s:LB)(a:Addr)(xs:Array Value)(n:Nat)(dd:LL)(sl:Array (Option Value)):Prop:=s.heap.get? a=some {cls:=.type "list",dict:=dd,data:=.seq xs n,slots:=sl}
def km:List Str->List Str->Bool
 | [],[]=>false
 | [],_::_=>true
 |_::_,[]=>false
 |x::xs,y::ys=>if x==y then km xs ys else decide (x.cps.toList<y.cps.toList)
section
variable {prog:LH}{w:LK}{A:LJ}{E:Lx}{s:LB}
theorem ur{x y:Str}{t:Tok}{Q:Lx}(h:Q (.bool (decide (x.cps.toList<y.cps.toList))) s):wpAny b⁻¹ A (richCompare .Lt (.str x t) (.str y u)) Q E s:=
 wpAny_richCompare_same (typeIs_str s x t) (typeIs_str s y u) slot_str_lt (call_str_lt ⟨(λq=>nomatch q),h⟩)
end
set_option maxHeartbeats 1600000 in
theorem DS(l b:Addr)(items items2:Array Value)(n n2:Nat)(dd dd2:LL)(sl sl2:Array (Option Value))(k:Nat) :
  ∀(i:Nat) (ss ts:LI),ss.length+ts.length=k->i<=items.size->i<=items2.size->StrsAre (items.toList.drop i) ss->StrsAre (items2.toList.drop i) ts->Meets (Builtin.«list.__eq__.loop» ⟨[.ref l,.ref b,rawInt i,rawInt 0],[]⟩)
   (λA R s=>GG s l items n dd sl/\GG s b items2 n2 dd2 sl2 /\
    R (.ok (.ret (.bool (km ss ts)))) s):=by
 induction k using Nat.strongRecOn with
 |_ k ih=>
 intro i ss ts T S J h1 h2 z w A R s h;obtain⟨hp,g,d,tk,os⟩:=s;obtain⟨o,p,h⟩:=h
 wp_walk using wpAny_loadPart' o,wpAny_loadPart' p
 have Y:((i:Nat):Int).toNat=i:=by simp
 rw[Y];have I:∀{xs:Array Value},xs.toList.drop i=[]->i<=xs.size->xs[i]?=none/\xs.size=i:=fun{xs} e q=>by
  have:=q0R List.length e;simp at this;exact⟨by simp;omega,⋯⟩
 have j:∀{xs:Array Value} {v:Value} {r:LC},xs.toList.drop i=v::r->xs[i]?=some v/\i<xs.size/\xs.toList.drop (i+1)=r:=fun{xs v r} e=>by
  have m:i<xs.toList.length:=by
   have:=q0R List.length e;simp at this ⊢;omega
  have q:=q0T (l:=xs.toList) m;rw[e]at q;obtain⟨O,M⟩:=List.cons.inj q;exact⟨by rw[<- q0G,Kz m,O],by simpa using m,M.symm⟩
 generalize C:items.toList.drop i=v1 at h1;generalize c:items2.toList.drop i=v2 at h2;cases h1 with
 |nil=>
  obtain⟨D,L⟩:=I C S;rw[D];cases h2 with
  |nil=>
   obtain⟨a,G⟩:=I c J;rw[a]
   wp_walk using wpAny_loadPart' o,wpAny_loadPart' p
   show R (.ok (.ret (.bool (decide (items.size<items2.size))))) _;rw[q08 ⋯];exact h
  |cons y u h2'=>
   obtain⟨a,G,_⟩:=j c;rw[a]
   wp_walk using wpAny_loadPart' o,wpAny_loadPart' p
   show R (.ok (.ret (.bool (decide (items.size<items2.size))))) _;rw[q09 ⋯];exact h
 |cons x t h1'=>
  obtain⟨D,L,d1⟩:=j C;rw[D];cases h2 with
  |nil=>
   obtain⟨a,G⟩:=I c J;rw[a]
   wp_walk using wpAny_loadPart' o,wpAny_loadPart' p
   show R (.ok (.ret (.bool (decide (items.size<items2.size))))) _;rw[q08 ⋯];exact h
  |cons y u h2'=>
   obtain⟨a,G,Z⟩:=j c;rw[a];refine q04 (eqBool_str ?_);unfold km at h;cases B:x==y with
   |true=>
    rw[B,q07 rfl]at h
    wp_walk
    have U:((i:Int)+1)=((i+1:Nat):Int):=by push_cast;rfl
    rw[U];exact⟨plainId_quiet plain_eq_loop _,codeAny_builtin entry_eq_loop (by
     rw[Around.under_plainId plain_eq_loop _];exact ih _ (by rw[<- T];simp;omega) (i+1) _ _ rfl ⋯ ⋯ (by rw[d1];exact h1') (by rw[Z];exact h2') z w A R _ ⟨o,p,h⟩)⟩
   |false=>
    rw[B,q06 (by decide)]at h
    wp_walk using wpAny_loadPart' o,wpAny_loadPart' p
    rw[D,a];exact q04 (ur (q05 h))
theorem t5(l b:Addr)(items items2:Array Value)(n n2:Nat)(dd dd2:LL)(sl sl2:Array (Option Value))(ss ts:LI)(h1:StrsAre items.toList ss)(h2:StrsAre items2.toList ts) :
  Meets (Builtin.«list.__lt__» ⟨[.ref l,.ref b],[]⟩)
   (λA R s=>GG s l items n dd sl/\GG s b items2 n2 dd2 sl2 /\
    R (.ok (.ret (.bool (km ss ts)))) s):=by
 intro a w A R s h;obtain⟨hp,g,d,tk,os⟩:=s;obtain⟨c,e,h⟩:=h
 have f3:=AutoSeq1.sub_list_list
 wp_walk using wpAny_loadPart' c,wpAny_loadPart' e
 exact⟨plainId_quiet plain_eq_loop _,codeAny_builtin entry_eq_loop (by
  rw[Around.under_plainId plain_eq_loop _];exact DS l b items items2 n n2 dd dd2 sl sl2 _ 0 ss ts rfl (K5 _) (K5 _) h1 h2 a w A R _ ⟨c,e,h⟩)⟩
abbrev cp(x:Str):List Nat:=x.cps.toList
theorem EM(h:cp x=cp y):x=y:=by
 cases x;cases y;exact q0R _ (Array.toList_inj.mp h)
abbrev ks(l:LI):List (List Nat):=l.map cp
theorem rT:∀(l m:LI),km l m=decide (ks l<ks m)
 | [],[]=>by simp[km,List.lt_irrefl]
 | [],_::_=>by simp[km]
 |_::_,[]=>by simp[km]
 |x::l,y::m=>by
  unfold km;have e:(ks (x::l)<ks (y::m))↔(cp x<cp y\/cp x=cp y/\ks l<ks m):=List.cons_lt_cons_iff
  by_cases h:x=y
  ·subst h
   rw[q07 (beq_self_eq_true x),rT l m];refine decide_eq_decide.mpr (e.trans ⟨λq=>?_,λq=>.inr ⟨rfl,q⟩⟩).symm;rcases q with q | q
   ·exact q0Q q (List.lt_irrefl _)
   ·exact q.2
  ·rw[q06 (by simpa using h)]
   refine decide_eq_decide.mpr (e.trans ⟨λq=>?_,λq=>.inl q⟩).symm;rcases q with q | q
   ·exact q
   ·exact q0Q (EM q.1) h
@[reducible] def ID:KeyOrd where
 α:=List (List Nat)
 blt a b:=decide (a<b)
 irrefl x:=q08 (List.lt_irrefl x)
 trans x y z p q:=q09 (List.lt_trans (of_decide_eq_true p) (of_decide_eq_true q))
 negTrans a b c h:=by
  simp only[q0b]at *
  by_cases hab:a<b
  ·exact .inl hab
  ·exact .inr (List.lt_of_le_of_lt (List.not_lt.mp hab) h)
 total x y p q:=List.le_antisymm (List.not_lt.mp (of_decide_eq_false q)) (List.not_lt.mp (of_decide_eq_false p))
@[reducible] def ordI:KeyOrd where
 α:=Int×List (List Nat)
 blt a b:=decide (a.1<b.1\/a.1=b.1/\a.2<b.2)
 irrefl a:=by simp[List.lt_irrefl]
 trans a b c h1 h2:=by
  simp only[q0b]at *;rcases h1 with h1 | ⟨h1,h1'⟩<;>rcases h2 with h2 | ⟨h2,h2'⟩
  ·exact .inl ⋯
  ·exact .inl ⋯
  ·exact .inl ⋯
  ·exact .inr ⟨⋯,List.lt_trans h1' h2'⟩
 negTrans a b c h:=by
  simp only[q0b]at *
  by_cases h1:a.1<b.1
  ·exact .inl (.inl h1)
  ·by_cases h2:b.1<c.1
   ·exact .inr (.inl h2)
   ·rcases h with h | ⟨h,h'⟩
    ·omega
    ·by_cases hab:a.2<b.2
     ·exact .inl (.inr ⟨⋯,hab⟩)
     ·exact .inr (.inr ⟨⋯,List.lt_of_le_of_lt (List.not_lt.mp hab) h'⟩)
 total a b h1 h2:=by
  simp only[decide_eq_false_iff_not]at *;have e:a.1=b.1:=by
   have q1:¬ a.1<b.1:=λq=>h1 (.inl q);have q2:¬ b.1<a.1:=λq=>h2 (.inl q);omega
  have e2:a.2=b.2:=List.le_antisymm (List.not_lt.mp λq=>h2 (.inr ⟨e.symm,q⟩)) (List.not_lt.mp λq=>h1 (.inr ⟨e,q⟩));exact Prod.ext e e2
section
variable {prog:LH}{w:LK}{A:LJ}{E:Lx}{s:LB}
theorem oh:∀{vs:LC} {ss:LI},StrsAre vs ss->vs.length=ss.length
 |_,_,.nil=>rfl
 |_,_,.cons x t h=>by simp[oh h]
theorem sI:∀{vs:LC} {ss:LI},StrsAre vs ss->∀j (h:j<vs.length),∃t,vs[j]=.str (ss.getD j ⟨#[]⟩) t
 |_,_,.cons x t h,0,_=>⟨t,rfl⟩
 |_,_,.cons x t h,j+1,hj=>by
  obtain⟨t',e⟩:=sI h j (by simpa using hj);exact⟨t',by simpa using e⟩
theorem Cp{ss:LI}(hl:s.heap.IsList l xs)(hb:s.heap.IsList b ys)(h1:StrsAre xs.toList ss)(h2:StrsAre ys.toList ts)(hu:A.units<cLine) :
  SeqAt.EqAt A s (.ref l) (.ref b) (decide (ss=ts)):=by
 by_cases d:l=b
 ·subst d
  have:xs=ys:=by
   obtain⟨o,z,_,n,B⟩:=hl;obtain⟨o',c,_,n',g⟩:=hb;rw[z]at c;cases c
   rw[B]at g;injection g
  subst this;have:ss=ts:=by rw[<- h1.strs,<- h2.strs]
  rw[q09 this];exact SeqAt.EqAt.same _
 ·refine SeqAt.EqAt.of_refs d ?_
  have p:=oh h1;have x:=oh h2;simp at p x
  by_cases m:xs.size=ys.size
  ·have q:=SeqAt.RcAt.lists (A:=A) (e:=λj=>ss.getD j ⟨#[]⟩==ts.getD j ⟨#[]⟩) hl hb m hu λj k i=>by
    obtain⟨t,v⟩:=sI h1 j (by simpa using k);obtain⟨u,r⟩:=sI h2 j (by simpa using i);rw[Array.getElem_toList]at v r;rw[v,r];exact λprog w E Q y=>eqBool_str y
   have e:((List.range xs.size).all λj=>ss.getD j ⟨#[]⟩==ts.getD j ⟨#[]⟩)=decide (ss=ts):=by
    by_cases a:ss=ts
    ·subst a;simp
    ·rw[q08 a]
     refine Bool.eq_false_iff.mpr λq=>a ?_;refine List.ext_getElem ⋯ λj k i=>?_;have:=Ln.mp q j (List.mem_range.mpr ⋯);rw[q0A,q0A,Kz k,Kz i,q0L,q0L]at this;exact eq_of_beq this
   rw[e]at q;exact q
  ·have a:¬ ss=ts:=λq=>m (by rw[q]at p;omega)
   rw[q08 a];exact SeqAt.RcAt.lists_lengths hl hb (by simpa using m) hu
theorem Az{ss:LI}{Q:Lx}(hl:s.heap.IsList l xs)(hb:s.heap.IsList b ys)(h1:StrsAre xs.toList ss)(h2:StrsAre ys.toList ts)(hu:A.units<cLine)
  (h:Q (.bool (km ss ts)) s):wpAny b⁻¹ A (richCompare .Lt (.ref l) (.ref b)) Q E s:=by
 obtain⟨⟨cls,p,data,m⟩,i,k,n,j⟩:=id hl;obtain⟨⟨cls2,g,data2,e⟩,a,d,o,c⟩:=id hb;simp only at k j d c;subst k j d c;exact richCompare_meets_room (op:=.Lt) ⟨_,i,rfl⟩ ⟨_,a,rfl⟩ PySem.F.slot_list_lt PySem.F.entry_list_lt (PySem.F.args_list_lt_2 _ _) (t5 l b xs ys n o p g m e ss ts h1 h2)
  ⟨i,a,show Value.bool (km ss ts)≠Value.notImplemented/\Q (.bool (km ss ts)) s from⟨(λx=>nomatch x),h⟩⟩ hu
end
end TS
namespace TS
open PySem PyProof.Rows PySem.MeetsSeq PySem.MeetsSeq3 PySem.W
def EY(h:Heap)(v:Value)(ss:LI):Prop:=∃a o xs n,v=.ref a/\h.get? a=some o/\o.cls=.type "tuple"/\o.data=.seq xs n/\StrsAre xs.toList ss
def TupI(h:Heap)(v:Value)(k:Int×List Str):Prop:=∃a o n l ys t,v=.ref a/\h.get? a=some o/\o.cls=.type "tuple"/\o.data=.seq #[.int k.1 t,.ref l] n/\h.IsList l ys/\StrsAre ys.toList k.2
section
variable {prog:LH}{w:LK}{A:LJ}{E:Lx}{s:LB}
theorem Dz{Q:Bool->Shared->Prop}(hu:A.units<cLine)(hx:TupI s.heap x k)(hy:TupI s.heap y m)(h:Q (decide (k.1<m.1\/k.1=m.1/\ks k.2<ks m.2)) s) :
  wpAny b⁻¹ A (keyLt' (tuples' true) x y) Q E s:=by
 obtain⟨a,o,n,l,xs,t,rfl,r,_,v,j,h1⟩:=hx;obtain⟨a2,o2,n2,l2,ys,u,rfl,d,_,g,b,h2⟩:=hy;refine kat_lt r v d g (kat_cons (wpAny_eqBool_int ?_));cases e:k.1==m.1 with
 |false=>
  refine kat_no (oneLt_int ?_);have p:¬ k.1=m.1:=λq=>by rw[q]at e;simp at e
  rw[show decide (k.1<m.1\/k.1=m.1/\ks k.2<ks m.2)=decide (k.1<m.1) from decide_eq_decide.mpr ⟨λq=>q.elim id λq=>q0Q q.1 p,.inl⟩]at h;exact h
 |true=>
  have z:=eq_of_beq e;have i:Q (km k.2 m.2) s:=by
   rw[rT];rw[show decide (k.1<m.1\/k.1=m.1/\ks k.2<ks m.2)=decide (ks k.2<ks m.2) from decide_eq_decide.mpr ⟨λq=>q.elim (λq=>by omega) And.right,λq=>.inr ⟨z,q⟩⟩]at h;exact h
  refine kat_yes (kat_cons (Cp j b h1 h2 hu prog w _ _ ?_))
  by_cases c:k.2=m.2
  ·rw[q09 c]
   refine kat_yes (kat_nil ?_);have:km k.2 m.2=false:=by rw[c,rT];exact q08 (List.lt_irrefl _)
   rw[this]at i;exact i
  ·rw[q08 c]
   refine kat_no ?_;rw[oneLt'_eq];simp only[show((true&&(1:Nat)==0)=true)=False by simp,if_false];exact q04 (Az j b h1 h2 hu (wpAny_truthy_bool i))
def keyEnd(h:Heap)(a kS:Addr)(out:Array Value):Heap:=(h.update kS (Obj.mapSeq λ_=>#[])).update a (Obj.mapSeq λ_=>out)
theorem Cm{a kS:Addr}{e1:Nat}{keys:Array Value}{vs:LC}{st:SortSt}{P:Fin->Shared->Prop}(hka:a≠kS)(hk:s.heap.get? kS=some (seqObj "list" keys e))(ha:s.heap.get? a=some (seqObj "list" #[] e1))
  (hz:keys.size<=sizeLine) (hz2:(arrOf st).size<=sizeLine) (hf:failedOf st=none) (h:P (.done (.ret .none)) {s with heap:=keyEnd s.heap a kS ((arrOf st).map (·.2))}) :
  wpAny b⁻¹ A (ksk_tail a false e1 (.ref kS) st) P E s:=by
 have b:(s.heap.update kS (Obj.mapSeq λ_=>(#[]:Array Value))).get? a=some (seqObj "list" #[] e1):=((Heap.SameBut.update s.heap kS (Obj.mapSeq λ_=>(#[]:Array Value))).2 a hka).trans ha;unfold ksk_tail;dsimp only;refine q04 (listUpdate_at hk rfl ?_ hz (K5 _));refine q04 (wpAny_letGo ?_);refine q04 (seqEpoch_at b rfl ?_);refine q04 (listUpdate_at b rfl ?_ (K5 _) (by rw[q06 (by decide),Array.size_map];exact Nat.le_succ_of_le hz2));rw[hf];simp only[bne_self_eq_false,q0a,if_false];exact q05 h
theorem DB{a kS:Addr}{e1:Nat}{keys:Array Value}{vs:LC}{P:Fin->Shared->Prop}(hka:a≠kS)(hk:s.heap.get? kS=some (seqObj "list" keys e))(ha:s.heap.get? a=some (seqObj "list" #[] e1))
  (hz:vs.length<=sizeLine) (hkz:keys.size=vs.length) {kd:SortKind} {r:Keyed->Nat} (hkk:2<=vs.length->∀{Q:SortKind->Shared->Prop},Q kd s->wpAny b⁻¹ A (keyKind' keys) Q E s)
  (C:2<=vs.length->Cmp prog w A (· = s) (keys.zip vs.toArray) kd r)
  (h:∀ps:List Keyed,ps.Perm (keys.toList.zip vs)->ps.Pairwise (gO r)->P (.done (.ret .none)) {s with heap:=keyEnd s.heap a kS (ps.map (·.2)).toArray}) :
  wpAny b⁻¹ A (ksk_end a false vs.toArray e1 (.ref kS) keys) P E s:=by
 have j:(keys.zip vs.toArray).toList=keys.toList.zip vs:=ksk_zip keys vs;have i:(keys.zip vs.toArray).size=vs.length:=by rw[Array.size_zip,hkz,KL,Nat.min_self]
 have fin:∀st:SortSt,(arrOf st).toList.Perm (keys.zip vs.toArray).toList->(arrOf st).toList.Pairwise (gO r)->failedOf st=none->wpAny b⁻¹ A (ksk_tail a false e1 (.ref kS) st) P E s:=by
  intro st g c m;refine Cm (vs:=vs) hka hk ha ⋯ (by have:=g.length_eq;simp at this;omega) m ?_;have:=h (arrOf st).toList (by rw[<- j];exact g) c
  rwa [show((arrOf st).toList.map (·.2)).toArray=(arrOf st).map (·.2) by rw[<- Array.toList_map]]at this
 have hs:vs.toArray.size=vs.length:=by simp
 unfold ksk_end;dsimp only;rw[q06 (by decide)]
 by_cases h2:vs.toArray.size<2
 ·rw[q07 h2,q07 h2]
  refine q04 (q05 ?_);rw[StateT.run_pure];refine q04 (q05 ?_);dsimp only;refine fin (SortSt.mk' general' (keys.zip vs.toArray) #[] 7 none) (List.Perm.refl _) ?_ rfl;have d:(keys.zip vs.toArray).toList.length<2:=by simp;omega
  show(keys.zip vs.toArray).toList.Pairwise _
  match(keys.zip vs.toArray).toList,d with
  | [],_=>exact .nil
  | [v],_=>exact List.pairwise_singleton _ _
  |_::_::_,d=>simp at d;omega
 ·rw[q06 h2,q06 h2]
  refine q04 (hkk ⋯ ?_);refine q04 (q0X (o9 (a₀:=keys.zip vs.toArray) (kd:=kd) (r:=r) (C ⋯) (st:=SortSt.mk' kd (keys.zip vs.toArray) #[] 7 none)
   (Q:=λ_ b=>SB (keys.zip vs.toArray) kd b/\(arrOf b).toList.Pairwise (gO r)) ⟨List.Perm.refl _,rfl,rfl⟩ rfl (by rw[i];omega) (λb l k=>⟨l,k⟩) _ rfl) ?_ λ_ _ e=>e)
  rintro⟨⟨⟩,b⟩ s' ⟨rfl,B,c⟩;exact fin b B.perm c B.failed
theorem AD{a:Addr}{f:Value}{vs:LC}{P:Fin->Shared->Prop}(ho:s.heap.get? a=some (seqObj "list" vs.toArray n))(hz:vs.length<=sizeLine)(I:Nat->Array Value->Shared->Prop){e1:Nat}
  (ho1:(s.heap.update a (Obj.mapSeq λ_=>(#[]:Array Value))).get? a=some (seqObj "list" #[] e1)) (h0:I 0 #[] {s with heap:=sort1 s.heap a vs})
  (hI:∀i kA s',I i kA s'->kA.size=i/\s'.heap.get? a=some (seqObj "list" #[] e1)/\∃e,s'.heap.get? (s.heap.objs.size+1)=some (seqObj "list" kA e))
  (step:∀i x kA s',vs[i]?=some x->I i kA s'->wpAny b⁻¹ A (call f [x]) (λv s2=>(∃e,s2.heap.get? (s.heap.objs.size+1)=some (seqObj "list" kA e)) /\
   I (i+1) (kA.push v) {s2 with heap:=s2.heap.update (s.heap.objs.size+1) (Obj.mapSeq (·.push v))}) (λ_ _=>False) s')
  (fin:∀keys s',I vs.length keys s'->∃(kd:SortKind) (r:Keyed->Nat),(2<=vs.length->∀{Q:SortKind->Shared->Prop},Q kd s'->wpAny b⁻¹ A (keyKind' keys) Q E s') /\
   (2<=vs.length->Cmp prog w A (· = s') (keys.zip vs.toArray) kd r) /\
   ∀ps:List Keyed,ps.Perm (keys.toList.zip vs)->ps.Pairwise (gO r)->P (.done (.ret .none)) {s' with heap:=keyEnd s'.heap a (s.heap.objs.size+1) (ps.map (·.2)).toArray}) :
  wpAny b⁻¹ A (ksk_tree a f false) P E s:=by
 have o:a<s.heap.objs.size:=K7 ho;unfold ksk_tree;refine q04 (listItems_at ho rfl (q04 (listUpdate_at ho rfl ?_)));refine q04 (seqEpoch_at ho1 rfl (q04 (wpAny_newTuple (q04 (wpAny_newList (q0Y ?_))))));show wpAny b⁻¹ A _ P E {s with heap:=sort1 s.heap a vs};have y:((s.heap.update a (Obj.mapSeq λ_=>(#[]:Array Value))).push (seqObj "tuple" vs.toArray 0)).objs.size=s.heap.objs.size+1:=by rw[size_push',Heap.size_update]
 show wpAny b⁻¹ A (ksk_rest a f false vs.toArray e1 (.ref ((s.heap.update a (Obj.mapSeq λ_=>(#[]:Array Value))).push (seqObj "tuple" vs.toArray 0)).objs.size)) P E _;rw[y];unfold ksk_rest;refine q04 (wpAny_rule ?_);rw[<- Array.forIn_toList];refine q04 (ksk_fold (λi s'=>∃kA,I i kA s') vs 0 _ ⟨#[],h0⟩ ?step ?done)
 case step=>
  rintro j x s' g ⟨kA,b⟩;simp only[Nat.zero_add]at b ⊢;have hj:j<vs.length:=(KA.mp g).1;obtain⟨d,_,_⟩:=hI _ _ _ b;refine q04 (wpAny_attempt (q0X (step j x kA s' g b) (λv s2 m=>?_) λ_ _ p=>p.elim));obtain⟨⟨e,l⟩,jS⟩:=m;dsimp only;refine q04 (listUpdate_at l rfl ?_ ⋯ (K' (Nat.le_of_eq (Array.size_push ..)) ⋯));exact q05 ⟨rfl,_,jS⟩
 case done=>
  rintro s' ⟨kA,b⟩;rw[Nat.zero_add]at b;obtain⟨d,k,e,c⟩:=hI _ _ _ b;obtain⟨kd,r,u,f2,q⟩:=fin _ _ b;refine q04 (listItems_at c rfl ?_);exact DB (K0 (Nat.lt_succ_of_lt o)) c k hz d u f2 q
end
theorem TupI.one{h:Heap}{v:Value}{k m:Int×List Str}(h1:TupI h v k)(h2:TupI h v m):k=m:=by
 obtain⟨a,o,n,l,ys,t,rfl,y,_,B,z,w⟩:=h1;obtain⟨a2,o2,n2,x,zs,u,e,d,_,b,j,r⟩:=h2;cases e;rw[y]at d;cases d
 rw[B]at b;have D:k.1=m.1:=by injection b with q;injection q with q;injection q with q _;injection q
 have C:l=x:=by injection b with q;injection q with q;injection q with _ q;injection q with q _;injection q
 subst C;obtain⟨o3,i,_,n3,p⟩:=z;obtain⟨o4,c,_,n4,g⟩:=j;rw[i]at c;cases c
 rw[p]at g;cases g
 exact Prod.ext D (by rw[<- w.strs,<- r.strs])
open Classical in
def keyI(h:Heap)(p:Keyed):Int×List (List Nat):=if q:∃k,TupI h p.1 k then(q.choose.1,ks q.choose.2) else(0,[])
theorem keyI_eq{p:Keyed}(q:TupI h p.1 k):keyI h p=(k.1,ks k.2):=by
 have a:∃k,TupI h p.1 k:=⟨k,q⟩;unfold keyI;rw[dif_pos a,a.choose_spec.one q]
section
variable {prog:LH}{w:LK}{A:LJ}{E:Lx}{s:LB}
theorem cmp_I{a₀:PA}(hu:A.units<cLine)(h:∀p,p∈a₀.toList->∃k,TupI s.heap p.1 k):Cmp prog w A (· = s) a₀ (tuples' true) (rk ordI (keyI s.heap) a₀.toList):=by
 intro x c y d s' j;cases j;obtain⟨k,b⟩:=h x c;obtain⟨m,a⟩:=h y d;refine Dz hu b a ⟨rfl,?_⟩;rw[<- rk_lt (O:=ordI) (f:=keyI s.heap) (y:=y) c,keyI_eq b,keyI_eq a]
theorem kind_I{vs:LC}{Q:SortKind->Shared->Prop}(h:∀v,v∈vs->∃k,TupI s.heap v k)(h0:0<vs.length)(hq:Q (tuples' true) s):wpAny b⁻¹ A (keyKind' vs.toArray) Q E s:=by
 have:∃fs,KatTups s.heap vs fs/\fs.length=vs.length/\∀v,v∈fs->∃x t,v=Value.int x t:=by
  clear h0 hq
  induction vs with
  |nil=>exact⟨[],trivial,rfl,λv b=>nomatch b⟩
  |cons v vs ih=>
   obtain⟨fs,t,l,q⟩:=ih λu hu=>h u (KW _ hu);obtain⟨k,a,o,n,ll,ys,c,rfl,d,g,e,hl,hs⟩:=h v (q0B ..);refine⟨.int k.1 c::fs,KatTups.cons d g e rfl t,by simp[l],λu hu=>?_⟩;rcases KU.mp hu with rfl | hu
   ·exact⟨_,_,rfl⟩
   ·exact q u hu
 obtain⟨fs,t,l,q⟩:=this;refine kat_kind (T:=.type "int") t ⋯ (λv b=>?_) (by rfl) hq;obtain⟨x,c,rfl⟩:=q v b;exact .now
end
end TS
namespace L2
open PySem PySem.Spec PyProof.Rows
theorem u0{α β:Type}{f:α->β}{l l':List β}(h:l.Perm l'):∀m:List α,l'=m.map f->∃m':List α,m'.Perm m/\l=m'.map f:=by
 induction h with
 |nil=>intro m e;exact⟨m,List.Perm.refl _,e⟩
 |cons x _ ih=>
  intro m e;cases m with
  |nil=>exact nomatch e
  |cons y m=>
   obtain⟨d,c⟩:=List.cons.inj e;obtain⟨m',p,q⟩:=ih m c;exact⟨y::m',p.cons y,by rw[q,d];rfl⟩
 |swap x y l=>
  intro m e
  match m,e with
  |a::b::m,e=>
   obtain⟨d,c⟩:=List.cons.inj e;obtain⟨r,o⟩:=List.cons.inj c;exact⟨b::a::m,List.Perm.swap a b m,by rw[d,r,o];rfl⟩
 |trans _ _ ih1 ih2=>
  intro m e;obtain⟨m1,k,i⟩:=ih2 m e;obtain⟨n,j,g⟩:=ih1 m1 i;exact⟨n,j.trans k,g⟩
theorem zj{h:Heap}{a b:Addr}{o:Obj}(hb:h.get? b=some o)(hne:b≠a):(TS.sort1 h a vs).get? b=some o:=by
 unfold TS.sort1;refine KC _ (KC _ ?_);rw[Heap.get?_update_ne _ _ _ _ hne];exact hb
abbrev Hx(s:LB)(its:LC):Shared:={s with heap:=(s.heap.push (seqObj "list" #[] 0)).update s.heap.objs.size (Obj.mapSeq (· ++ its.toArray))}
def Gw(K:Ly)(H:Hp)(x:V)(k:Int×List Str):Prop:=∃a l,x=.ref a/\dO K H a [.int k.1,.ref l]/\aN K H l (k.2.map V.str)
section
variable {X:Cx}
theorem Inv.pair{pins:Lz}{σ:St}(I:Inv X pins σ H s){x:V}{k:Int×List Str}{u:Value}(h:Gw X.K H x k)(r:bH x u):TS.TupI s.heap u k:=by
 obtain⟨a,l,rfl,e,i⟩:=h;obtain rfl:u=Value.ref a:=r;obtain⟨its,b,⟨o,g,m,n,j⟩,_⟩:=I.tuple e;obtain⟨js,c,d,_⟩:=I.list i;cases b with
 |cons q1 b=>
  cases b with
  |cons q2 b=>
   cases b;obtain⟨t,rfl⟩:=q1;obtain rfl:=q2;exact⟨a,o,n,l,_,t,rfl,g,m,j,d.isList,by simpa using ic c⟩
abbrev kI(k:Int×List Str):Int×List (List Nat):=(k.1,TS.ks k.2)
end
@[reducible] def FN:KeyOrd where
 α:=Int
 blt a b:=decide (a<b)
 irrefl a:=by simp
 trans a b c h1 h2:=by simp only[q0b]at *;omega
 negTrans a b c h:=by simp only[q0b]at *;omega
 total a b h1 h2:=by simp only[decide_eq_false_iff_not]at *;omega
theorem Cs{prog:LH}{a₀:Array Keyed}(h0:IntKeys a₀):TS.Cmp prog w A J a₀ oneType' (TS.rk FN (λp=>numOf p.1) a₀.toList):=by
 intro x c y g s j;obtain⟨a,t,e⟩:=h0 x c;obtain⟨b,u,d⟩:=h0 y g;have:=TS.rk_lt (O:=FN) (f:=λp=>numOf p.1) (y:=y) c;rw[keyLt'_oneType,e,d];refine oneLt_int ⟨j,?_⟩;rw[<- this];show decide (a<b)=decide (numOf x.1<numOf y.1);rw[e,d];rfl
theorem yh:∀{ys:List Int} {us:LC},bx (ys.map V.int) us->IntsAre us ys
 | [],_,.nil=>.nil
 |y::ys,_,.cons ⟨t,e⟩ r=>by subst e;exact .cons y t (yh r)
theorem pf:∀{ys:List Int} {us:LC},IntsAre us ys->bx (ys.map V.int) us
 |_,_,.nil=>.nil
 |_,_,.cons x t h=>.cons ⟨t,rfl⟩ (pf h)
theorem FY:∀{vs:LC} {ns:List Int},IntsAre vs ns->2<=vs.length->keyKind' vs.toArray=pure oneType'
 | [],_,_,h=>by simp at h
 | [_],_,_,h=>by simp at h
 |v₁::v₂::ci,_,hI,_=>keyKind_ints hI
section
variable {X:Cx}
def wF(K:Ly):List V->Hp->VK->Prop:=λxs H Q=>∃p ys,xs=[.ref p]/\aN K H p (ys.map V.int) /\
 ∀zs:List Int,zs.Perm ys->zs.Pairwise (·<=·)->∀l,H l=none->Q (.ref l) (aE H l (.lst (zs.map V.int)))
theorem vY:d0 X (.builtin "sorted") (wF X.K):=by
 intro g s σ H xs us Q I r h;obtain⟨p,R,rfl,y,q⟩:=h;obtain⟨u,rfl,S⟩:=mw r;cases S;obtain⟨c,G,T,M⟩:=I.list y;have i:=G.length;rw[KD]at i M;have j:=yh G;have C:((s.heap.push (seqObj "list" #[] 0)).update s.heap.objs.size (Obj.mapSeq (· ++ c.toArray))).objs.size=s.heap.objs.size+1:=by rw[Heap.size_update,size_push']
 refine TS.sorted_call (s2:=Hx s c) (vs:=c) (kd:=oneType') (λh'=>collect_list T.isList h' ⋯) ⋯ (λh2 {Q} y=>?_) (λ_=>Cs j.intKeys) λd m l=>?_
 ·rw[FY j h2];exact q05 y
 ·obtain⟨k,D⟩:=TS.zip_map2 m
  have O:∀u,u∈d.map (·.2)->∃n t,u=Value.int n t:=λu U=>j.all u (k.mem_iff.mp U);have x:=intsAre_map _ O;have v:((d.map (·.2)).map numOf).Perm R:=(k.map numOf).trans (by rw[j.nums]);rw[pairsOf_toList]at l;have J:=TS.ranks_out m l;have L:((d.map (·.2)).map numOf).Pairwise (·<=·):=by
   rw[D,List.pairwise_map,List.pairwise_map];refine J.imp fun{a b} B=>?_;have:=of_decide_eq_false B;exact Int.not_lt.mp this
  generalize(d.map (·.2)).map numOf=zs at x v L;generalize d.map (·.2)=out at x ⊢;clear l J m k D O;show EP X g σ Q (.ref ((s.heap.push (seqObj "list" #[] 0)).update s.heap.objs.size (Obj.mapSeq (· ++ c.toArray))).objs.size) {s with heap:=sortedHeap (((s.heap.push (seqObj "list" #[] 0)).update s.heap.objs.size (Obj.mapSeq (· ++ c.toArray))).push (seqObj "list" c.toArray 0)) ((s.heap.push (seqObj "list" #[] 0)).update s.heap.objs.size (Obj.mapSeq (· ++ c.toArray))).objs.size c out.toArray};rw[C];obtain⟨e,Y⟩:=sortedAll_at s.heap c out.toArray;have z:(zs.map V.int).length<=sizeLine:=by rw[KD,v.length_eq];exact M
  exact⟨.ref (s.heap.objs.size+1),_,I.laid (t':=s.toks) (h':=sortedAll s.heap c out.toArray) (λb o B=>sortedAll_old B) (Nat.le_succ _) (show b8 X.prog X.w _ _ _ (.lst (zs.map V.int)) from⟨z,out,e,pf x,Y⟩),rfl,q zs v L _ (I.hok.fresh (Nat.le_succ _))⟩
end
end L2
namespace TS
open PySem PyProof.Rows PySem.W
section
variable {prog:LH}{w:LK}{A:LJ}{E:Lx}{s:LB}{T:String}{r d:Addr}{n:Nat}{P:Nat->Value->Prop}{OK:Heap->Prop}
theorem collect_src{Q:List Value->Shared->Prop}(K:KdlSrc prog w T r d n P OK)(hh:A.handled=none)(hok:OK s.heap)(hn:n<=sizeLine)
  (h:∀h' tk (acc':Array Value),(∀b o,s.heap.get? b=some o->h'.get? b=some o)->ItemsOf P acc' n->Q acc'.toList {s with heap:=h',toks:=tk}) :
  wpAny b⁻¹ A (collect (.ref r)) Q E s:=by
 have l:=K.there _ hok;unfold collect;refine q04 (wpAny_runValue (codeAny_builtin entry_proto_collect' (show wpAny _ _ (do again (.builtin "list.__iadd__" ⟨[<- newList [],.ref r],[]⟩)) _ _ s from q04 (wpAny_newList (q05 ⟨Code.quiet_builtin _ (by decide +kernel),codeAny_builtin entry_list_iadd' ?_⟩)))));show wpAny _ _ (Builtin.List.listExtendWith (.ref s.heap.objs.size) (.ref r) (.ref s.heap.objs.size)) _ _ {s with heap:=s.heap.push (seqObj "list" #[] 0)};rw[Around.under_plainId (show plainId "list.__iadd__"=true by decide +kernel) _];refine q0X (kdl_extend (s:={s with heap:=s.heap.push (seqObj "list" #[] 0)}) (R:=λc i=>c=.ok (.ret (.ref s.heap.objs.size))/\∃h' tk acc' k,i={s with heap:=h',toks:=tk}/\(∀b o,s.heap.get? b=some o->h'.get? b=some o) /\
   h'.get? s.heap.objs.size=some {cls:=.type "list",dict:=none,data:=.seq acc' k,slots:=#[]}/\ItemsOf P acc' n) K hh (K.keep _ _ hok λb _ o e=>KC _ e) s.heap.objs.size (Nat.ne_of_gt l.1) (Nat.ne_of_gt l.2) (.ref s.heap.objs.size) 0 (KJ _ rfl)
  (λh' tk acc' k m j g=>⟨rfl,h',tk,acc',k,rfl,λb o q=>m b o (K0 (K7 q)) (KC _ q),j,g⟩) hn) (λfin i p=>?_) λe i z=>?_
 ·have u:∀(c:Result) (i:LB),(c=.ok (.ret (.ref s.heap.objs.size))/\∃h' tk acc' k,i={s with heap:=h',toks:=tk}/\(∀b o,s.heap.get? b=some o->h'.get? b=some o) /\
    h'.get? s.heap.objs.size=some {cls:=.type "list",dict:=none,data:=.seq acc' k,slots:=#[]}/\ItemsOf P acc' n) ->
    match c with
    |Except.ok (Flow.ret v)=>wpAny b⁻¹ A (match v with
      |Value.ref a=>do
       let o <- load a
       match o.data with
        |Data.seq xs epoch=>pure xs.toList
        |x=>unsupported "internal:collect"
      |x=>unsupported "internal:collect") Q E i
    |Except.ok a=>False
    |Except.error e=>E e i:=by
   rintro c i ⟨rfl,h',tk,acc',k,rfl,m,j,g⟩;exact q04 (wpAny_load j (q05 (h h' tk acc' m g)))
  cases fin with
  |done f=>exact u _ _ p
  |again k=>exact⟨p.1,codeAny_mono p.2 λc y hr=>u c y hr⟩
 ·exact nomatch z.1
end
section
variable {prog:LH}{w:LK}{A:LJ}{E:Lx}{s:LB}
def KeyRun(prog:LH)(w:LK)(A:LJ)(E:Lx)(q:Addr)(Q:Lx)(vs:LC)(s2:LB):Prop:=
 vs.length<=sizeLine/\∀e1,((with1 s2 vs).update s2.heap.objs.size (Obj.mapSeq λ_=>(#[]:Array Value))).get? s2.heap.objs.size=some (seqObj "list" #[] e1)->∀kS,kS=(with1 s2 vs).objs.size+1 ->
   ∃(I:Nat->Array Value->Shared->Prop),I 0 #[] {s2 with heap:=sort1 (with1 s2 vs) s2.heap.objs.size vs} /\
  (∀i kA s',I i kA s'->kA.size=i/\s'.heap.get? s2.heap.objs.size=some (seqObj "list" #[] e1)/\∃e,s'.heap.get? kS=some (seqObj "list" kA e)) /\
  (∀i x kA s',vs[i]?=some x->I i kA s'->wpAny b⁻¹ A.in1.in1 (call (.ref q) [x]) (λv s3=>(∃e,s3.heap.get? kS=some (seqObj "list" kA e))/\I (i+1) (kA.push v) {s3 with heap:=s3.heap.update kS (Obj.mapSeq (·.push v))}) (λ_ _=>False) s') /\
  (∀keys s',I vs.length keys s'->∃(kd:SortKind) (r:Keyed->Nat),(2<=vs.length->∀(Q:SortKind->Shared->Prop),Q kd s'->wpAny b⁻¹ A.in1.in1 (keyKind' keys) Q E s')/\(2<=vs.length->Cmp prog w A.in1.in1 (· = s') (keys.zip vs.toArray) kd r) /\
   ∀ps:List Keyed,ps.Perm (keys.toList.zip vs)->ps.Pairwise (gO r)->Q (.ref s2.heap.objs.size) {s' with heap:=keyEnd s'.heap s2.heap.objs.size kS (ps.map (·.2)).toArray})
theorem sorted_key(hc:wpAny b⁻¹ A.in1 (collect v) (KeyRun prog w A E q Q) E s) :
  wpAny b⁻¹ A (call (.builtin "sorted") [v] [(Str.ofString "key",.ref q)]) Q E s:=by
 refine call_function_entry_kw kind_sorted plain_sorted entry_sorted (ksk_s1 _ _) ?_;unfold Builtin.«sorted»;refine q04 (m:=checkCount "sorted" 1 1 _) (q05 ?_)
 refine q04 (q0X hc (λvs a ⟨n,h⟩=>?_) λ_ _ e=>e);refine q04 (wpAny_newList ?_ (hsz:=by omega));have b:(with1 a vs).get? a.heap.objs.size=some (seqObj "list" vs.toArray 0):=KJ _ rfl;show wpAny _ _ _ _ _ {a with heap:=with1 a vs};obtain⟨z,c⟩:=xR b;obtain⟨I,u,p,d,fin⟩:=h z c _ rfl;refine q04 (q0Y (wpAny_call_entry_kw slot_list_sort ⟨_,b,rfl⟩ entry_list_sort ?body (ksk_l1 _ _)))
 case body=>
  show wpAny b⁻¹ A.in1.in1 (Builtin.«list.sort» ⟨[.ref a.heap.objs.size],[(Str.ofString "key",.ref q)]⟩) _ _ _;rw[ksk_t1];refine AD (s:={a with heap:=with1 a vs}) b n I c u p d λkeys g o=>?_;obtain⟨l,r,y,f2,x⟩:=fin keys g o;exact⟨l,r,λh2 {Q} hq=>y h2 Q hq,f2,λi k j=>⟨_,rfl,q05 ⟨_,rfl,x i k j⟩⟩⟩
end
end TS
namespace L2
open PySem PySem.Spec PyProof.Rows QL
abbrev vj(p a:Addr):HO:=.ext λh=>h.IsValuesView p a
section
variable {X:Cx}{pins:Lz}{σ:St}{H:Hp}{s:LB}{h':Heap}
theorem Inv.adopt{t':Nat}{a:Addr}(I:Inv X pins σ H s)(k:∀b u,b≠a->s.heap.get? b=some u->h'.get? b=some u)(hn:H a=none)(hL:a≠X.env.locals)
  (h1:X.s₀.heap.objs.size<=a) (h2:∀x c,X.env.cells.lookup x=some c->c≠a) (h3:∀p∈X.pn++pins,p.1≠a) (new:b8 X.prog X.w (aE H a o) h' a o):Inv X pins σ (aE H a o) {s with heap:=h',toks:=t' }:=by
 have g:∀b u,H b=some u->b≠a:=λb u e z=>by rw[z,hn]at e;cases e
 have sm:∀b u,H b=some u->aE H a o b=some u:=λb u e=>by rw[av (g b u e)];exact e
 refine I.step (g':=s.gens) (d':=s.drawn) (ch:=[a]) (λb i=>?_) (λb o _ _ d e _=>k b o (λz=>d (by simp[z])) e) (λb o _ _ d e _=>⟨o.slots,k b o (λz=>d (by simp[z])) e⟩) (λb _ d _ n=>by rw[av (λz=>d (by simp[z]))];exact n)
  (λb o d e=>⟨o,k b o (λz=>d (by simp[z])) e⟩) (λb j e=>sm _ _ e) (λb _ _ e=>sm _ _ e) (λb ps e=>⟨#[],by rw[sm _ _ e];simp⟩) (λm w=>?_) (λb u e=>?_) I.bare
 ·have e:b=a:=by simpa using i
  subst e;exact⟨.inr h1,hL,h2,h3⟩
 ·obtain⟨o,y,B,l,r⟩:=w
  exact⟨o,y,B,k _ o (Ne.symm hL) l,r⟩
 ·by_cases i:b=a
  ·subst i;rw[af]at e;cases e;exact new
  ·rw[av i]at e
   refine(I.hok b u e).stay (λc v d q=>k c v ?_ q) (λc q=>sm _ _ q) λc j q=>sm _ _ q;rcases d with z | z
   ·rw[z];exact i
   ·exact g c _ z
end
section
variable {X:Cx}{o:Expr}{apos cpos:Pos}{td:TE}
def wb(td:TE):TE:=λσ H Q=>td σ H λx H1=>∃a kvs,x=.ref a/\H1 a=some (.dK kvs)/\∀p,H1 p=none->Q (.ref p) (aE H1 p (vj p a))
theorem Bs(ho:PE X o td)(hb:attributeBase o "values" X.env (eval o X.env)=eval o X.env)(hl:(apos.endLine==cpos.line)=true):PE X (.Call (.Attribute o "values" apos) [] [] cpos) (wb td):=by
 intro c s σ H Q I h;refine wpAny_Call_method0_late hb hl (cz (ho c s σ H _ I h) λu d ⟨x,H1,g,q,a,i,v,l,r⟩=>?_);subst v;obtain rfl:u=Value.ref a:=q;obtain⟨p,n,t3⟩:=vQ g (.inl ⟨i,.inl l⟩);refine⟨"dict",_,PySem.F.plainAttrs_dict,PySem.F.slot_dict_values,PySem.F.type_dict_values,p,n,?_⟩;refine Calls.callWith_builtin rfl (evalArgs_nil3 ?_);obtain⟨z,j,vs,rel,m⟩:=qY g.hok l;refine call_meetsIn PySem.F.slot_dict_values m.typeIs PySem.F.entry_dict_values (PySem.F.args_dict_values_1 _) (meets_dict_values (b5 X.prog X.w) a j) ⟨⟨_,m⟩,?_⟩;refine⟨.ref d.heap.objs.size,aE H1 d.heap.objs.size (vj d.heap.objs.size a),g.laid (t':=d.toks) (λb u e=>KC _ e) (K4 _) ?_,rfl,r _ (g.hok.fresh (K4 _))⟩;refine⟨⟨_,KJ _ rfl,rfl,rfl⟩,⟨_,KJ _ rfl⟩,?_⟩;rintro h1 h2 ⟨o,ho,x⟩ k;exact⟨o,k o ho,x⟩
end
end L2
namespace L2
open PySem PySem.Spec PyProof.Rows QL PySem.W
theorem nR{α β:Type}{F:α->β->Prop}:∀{l₁:List α} {l₂:List β} {i:Nat} {a:α},Paired F l₁ l₂->l₁[i]?=some a->∃b,l₂[i]?=some b/\F a b
 |_,_,_,_,.nil,e=>by simp at e
 |_,_,0,_,.cons r _,e=>by simp at e;subst e;exact⟨_,rfl,r⟩
 |_,_,i+1,a,.cons _ t,e=>by
  obtain⟨u,h1,h2⟩:=nR (i:=i) (a:=a) t (by simpa using e);exact⟨u,by simpa using h1,h2⟩
abbrev VE:=cL×Addr×List Str
abbrev Hj(e:VE):cL×V:=(e.1,.ref e.2.1)
abbrev Bt(e:VE):V:=.ref e.2.1
def gJ(g:List Str->Int)(zs:List VE):Prop:=zs.Pairwise λa b=>TS.ordI.blt (kI (g b.2.2,b.2.2)) (kI (g a.2.2,a.2.2))=false
section
variable {X:Cx}{pins:Lz}{σ:St}{H:Hp}{s:LB}{k:Nat}{f:Addr}{fd:LG}{ps:LI}{sp:Sp}{P:List Str->Prop}{g:List Str->Int}{Q:VK}{vs:LC}{es:List VE}
theorem DM(F:bC X.prog X.w X.K X.mg X.base bJ k f fd ps sp)(hb:dQ X.K fd ps [])(hr:c8 (k+2) X.A)
  (hsp:∀l ss H Q E,aN X.K H l (ss.map V.str)->P ss->(∀t,H t=none->Q (.ref t) (aE H t (.tup [.int (g ss),.ref l])))->sp [.ref l] H Q E)
  (I:Inv X pins σ H s) (hl:vs.length=es.length) (hz:es.length<=sizeLine) (hit:∀(i:Nat) (x:Value),vs[i]?=some x->∃e:VE,es[i]?=some e/\x=Value.ref e.2.1)
  (hes:∀e,e∈es->aN X.K H e.2.1 (e.2.2.map V.str)/\P e.2.2)
  (q:∀zs:List VE,zs.Perm es->gJ g zs->∀(H':Hp) (l:Addr),aD H H'->H l=none->H' l=some (.lst (zs.map Bt))->Q (.ref l) H') :
  TS.KeyRun X.prog X.w X.A X.xe f (EP X pins σ Q) vs s:=by
 refine⟨⋯,λe1 a6 M a4=>?_⟩;have hw:(TS.with1 s vs).objs.size=s.heap.objs.size+1:=size_push' ..;rw[hw]at a4;have nL:∀b,s.heap.objs.size<=b->b≠X.env.locals:=λb hb z=>by have h1:(X.env.locals:Nat)<s.heap.objs.size:=I.lt;rw[<- z]at h1;exact q0Q (KZ h1 hb) (La _)
 have nF:∀b,s.heap.objs.size<=b->b∉X.fs:=λb hb=>I.nofs hb;have nC:∀b,s.heap.objs.size<=b->∀x c,X.env.cells.lookup x=some c->c≠b:=λb hb x c e z=>by
  obtain⟨v,o,ho,_⟩:=I.cell x c e;have h1:=K7 ho;rw[z]at h1;exact q0Q (KZ h1 hb) (La _)
 have nP:∀b,s.heap.objs.size<=b->∀p∈X.pn++pins,p.1≠b:=λb hb p hp z=>by
  have h1:=K7 (I.pin p hp).1;rw[z]at h1;exact q0Q (KZ h1 hb) (La _)
 have nS:X.s₀.heap.objs.size<=s.heap.objs.size:=I.sz;have a1:H s.heap.objs.size=none:=I.hok.fresh (K4 _);have Y:∀{L:Hp} {C:LB} {pins':Lz},Inv X (pins++pins') σ L C->∀p∈pins,C.heap.get? p.1=some p.2/\L p.1=none/\p.1≠X.env.locals/\p.1∉X.fs/\∀v,p.2.data≠.cell v:=λJ p hp=>J.pin p (q0C _ (q0D _ hp));have B:∀(xs:Array Value) (n:Nat) (v),(seqObj "list" xs n).data≠.cell v:=λxs n v z=>by cases z
 refine⟨λi kA C=>∃(L:Hp) (D:LD) (e:Nat),Inv X (pins++[(s.heap.objs.size,seqObj "list" #[] e1),(M,seqObj "list" kA e)]) σ L C/\aD H L/\kA.toList=D.map Value.ref/\D.length=i /\
  (∀(j:Nat) (t:Addr) (d:VE),D[j]?=some t->es[j]?=some d->L t=some (.tup [.int (g d.2.2),.ref d.2.1])),?_,?_,?_,?_⟩
 ·have I':Inv X pins σ H {s with heap:=TS.sort1 (TS.with1 s vs) s.heap.objs.size vs}:=by
   refine I.kept (t':=s.toks) λb u e=>?_;have:=K7 e;exact zj (KC _ e) (K0 this)
  refine⟨H,[],0,I'.pins_of λp hp=>?_,aD.refl _,rfl,rfl,λj t d h=>by simp at h⟩;rcases KR.mp hp with hp | hp
  ·exact I'.pin p (q0C _ hp)
  ·rcases KU.mp hp with rfl | hp
   ·exact⟨KC _ (KC _ a6),a1,nL _ (K4 _),nF _ (K4 _),B _ _⟩
   ·obtain rfl:=KF.mp hp
    refine⟨?_,I.hok.fresh ⋯,nL _ ⋯,nF _ ⋯,B _ _⟩;have a8:(((TS.with1 s vs).update s.heap.objs.size (Obj.mapSeq λ_=>(#[]:Array Value))).push (seqObj "tuple" vs.toArray 0)).objs.size=M:=by rw[size_push',Heap.size_update,hw];omega
    show(TS.sort1 (TS.with1 s vs) s.heap.objs.size vs).get? M=_;rw[<- a8];exact KJ _ rfl
 ·rintro i kA C ⟨L,D,e,O,sm,hk,S,U⟩
  refine⟨by rw[<- Array.length_toList,hk,KD];exact S,(O.pin (s.heap.objs.size,_) (by simp)).1,e,(O.pin (M,_) (by simp)).1⟩
 ·rintro i x kA C hx ⟨L,D,e,O,sm,hk,S,U⟩
  obtain⟨d,T,rfl⟩:=hit i x hx;have a3:d∈es:=KH T;have hS:=sm.seq (hes d a3).1;have a2:=hsp d.2.1 d.2.2 L (λv H2=>∃t,v=.ref t/\L t=none/\H2=aE L t (.tup [.int (g d.2.2),.ref d.2.1])) E0 hS (hes d a3).2 λt Z=>⟨t,rfl,Z,rfl⟩;refine wpAny_call (codeAny_mono (F.run X.A.in1.in1 X.stack C L ⟨[.ref d.2.1],[]⟩ [.ref d.2.1] [.ref d.2.1] _ E0 (hr.in1.in1) O.env0.in1.in1 (hb C [.ref d.2.1] O.kIn (by have:=F.len _ _ _ _ a2;simpa using this)) (.cons rfl .nil) a2) λr s2 hq=>?_);cases r with
  |error e=>exact hq
  |ok fl=>
   cases fl with
   |next=>exact False.elim hq
   |brk=>exact False.elim hq
   |cont=>exact False.elim hq
   |ret u=>
    obtain⟨v,H2,I2,rv,t,rfl,Z,rfl⟩:=O.after hq;obtain rfl:u=Value.ref t:=rv;have p0:=I2.pin (s.heap.objs.size,seqObj "list" #[] e1) (by simp);have pk:=I2.pin (M,seqObj "list" kA e) (by simp);have Ia:Inv X (pins++[(s.heap.objs.size,seqObj "list" #[] e1)]) σ (aE L t (.tup [.int (g d.2.2),.ref d.2.1])) s2:=I2.pins_of λp hp=>by
     rcases KR.mp hp with hp | hp
     ·exact Y I2 p hp
     ·obtain rfl:=KF.mp hp;exact p0
    have Ib:=Ia.turned (t':=s2.toks) (h':=s2.heap.update M (Obj.mapSeq (·.push (Value.ref t)))) (λb o hb e=>(Heap.get?_update_ne _ _ _ _ hb).trans e) pk.2.1 (nL _ ⋯) (.inr ⋯) (nC _ ⋯) (λp hp=>by
     rcases KR.mp hp with hp | hp
     ·exact nP _ ⋯ p (q0D _ hp)
     ·rcases KR.mp hp with hp | hp
      ·exact nP _ ⋯ p (q0C _ hp)
      ·obtain rfl:=KF.mp hp;show s.heap.objs.size≠M;omega)
    obtain⟨e',a7⟩:∃e',(s2.heap.update M (Obj.mapSeq (·.push (Value.ref t)))).get? M=some (seqObj "list" (kA.push (Value.ref t)) e'):=⟨_,get?_update_seq pk.1 _⟩;refine⟨⟨e,pk.1⟩,aE L t (.tup [.int (g d.2.2),.ref d.2.1]),D++[t],e',Ib.pins_of λp hp=>?_,sm.trans (ao Z),by simp[hk],by simp[S],λj u e2 h1 h2=>?_⟩
    rotate_right
    ·by_cases hj:j<D.length
     ·rw[K2 hj]at h1
      have q1:=U j u e2 h1 h2;rw[av (aK q1 Z)];exact q1
     ·have:j=D.length:=by have:=(KA.mp h1).1;simp at this;omega
      subst this;rw[List.getElem?_concat_length]at h1;cases h1;rw[S,T]at h2;cases h2;exact af
    ·rcases KR.mp hp with hp | hp
     ·exact Ib.pin p (q0C _ (q0D _ hp))
     ·rcases KU.mp hp with rfl | hp
      ·exact Ib.pin (s.heap.objs.size,_) (by simp)
      ·obtain rfl:=KF.mp hp
       exact⟨a7,pk.2.1,nL _ ⋯,nF _ ⋯,B _ _⟩
 ·rintro keys C ⟨L,D,e,O,sm,hk,S,U⟩
  have ez:keys.toList.zip vs=(D.zip es).map λG=>(Value.ref G.1,Value.ref G.2.2.1):=by
   apply List.ext_getElem
   ·simp[hk];omega
   ·intro i i1 i2
    have h1:i<vs.length:=by rw[q0N]at i1;omega
    obtain⟨d,T,hx⟩:=hit i vs[i] (Kz h1);obtain⟨h3,h4⟩:=KA.mp T;simp only[List.getElem_zip,List.getElem_map,hk,hx,h4]
  have tup:∀G,G∈D.zip es->TS.TupI C.heap (Value.ref G.1) (g G.2.2.2,G.2.2.2):=λG a5=>by
   obtain⟨i,hi,e⟩:=List.mem_iff_getElem.mp a5;rw[List.getElem_zip]at e;have h1:i<D.length:=by rw[q0N]at hi;omega
   have h2:i<es.length:=by rw[q0N]at hi;omega
   have q1:=U i D[i] es[i] (Kz h1) (Kz h2);subst e;exact O.pair (x:=.ref D[i]) ⟨D[i],es[i].2.1,rfl,dO.of q1,sm.seq (hes _ (KM h2)).1⟩ rfl
  have all:∀v,v∈keys.toList->∃k,TS.TupI C.heap v k:=λv hv=>by
   rw[hk]at hv;obtain⟨t,Z,rfl⟩:=Lm.mp hv;obtain⟨i,hi,e⟩:=List.mem_iff_getElem.mp Z;refine⟨_,tup (D[i],es[i]'⋯) ?_ |> λz=>by rw[<- e];exact z⟩;refine List.mem_iff_getElem.mpr ⟨i,by rw[q0N];omega,by rw[List.getElem_zip]⟩
  refine⟨tuples' true,TS.rk TS.ordI (TS.keyI C.heap) (keys.zip vs.toArray).toList,λh2 Q hq=>?_,λ_=>TS.cmp_I (by have:=hr.un;show X.A.units+1+1<cLine;omega) λp hp=>all p.1 ?_,λps p1 p2=>?_⟩
  ·have:=TS.kind_I (prog:=X.prog) (w:=X.w) (A:=X.A.in1.in1) (E:=X.xe) (vs:=keys.toList) all (by rw[hk,KD];omega) hq
   simpa using this
  ·rw[ksk_zip]at hp
   exact(List.of_mem_zip hp).1
  ·rw[ksk_zip]at p2
   have p3:=TS.ranks_out p1 p2;obtain⟨R,pm,rfl⟩:=u0 p1 _ ez;have mm:∀t,t∈R->t∈D.zip es:=λt Z=>pm.mem_iff.mp Z;rw[List.pairwise_map]at p3;have p4:gJ g (R.map (·.2)):=by
    unfold gJ;rw[List.pairwise_map];refine(List.Pairwise.and_mem.mp p3).imp ?_;rintro x y ⟨hx,hy,hb⟩;rw[TS.keyI_eq (p:=(Value.ref x.1,Value.ref x.2.2.1)) (tup x (mm x hx)),TS.keyI_eq (p:=(Value.ref y.1,Value.ref y.2.2.1)) (tup y (mm y hy))]at hb;exact hb
   have p5:(R.map (·.2)).Perm es:=(pm.map _).trans (by rw[List.map_snd_zip ⋯]);have qq:=q _ p5 p4;have a0:(((R.map (·.2))).map Bt).length<=sizeLine:=by rw[KD,p5.length_eq];exact hz
   have vo:bx ((R.map (·.2)).map Bt) (R.map λG=>Value.ref G.2.2.1):=by
    clear p3 p4 p5 qq a0 mm pm p1 p2
    induction R with
    |nil=>exact .nil
    |cons t m ih=>exact .cons rfl ih
   have eo:List.map (λx=>x.2) (List.map (λG:Addr×VE=>(Value.ref G.1,Value.ref G.2.2.1)) R)=R.map λG=>Value.ref G.2.2.1:=by rw[KS];rfl
   rw[eo];generalize(R.map λG=>Value.ref G.2.2.1)=out at vo ⊢;generalize(R.map (·.2)).map Bt=zv at vo qq a0;clear p3 p4 p5 pm mm p2 p1 eo;have p0:=O.pin (s.heap.objs.size,seqObj "list" #[] e1) (by simp);have pk:=O.pin (M,seqObj "list" keys e) (by simp);have Ia:Inv X pins σ L C:=O.pins_of (Y O);have Ib:=Ia.turned (t':=C.toks) (h':=C.heap.update M (Obj.mapSeq λ_=>(#[]:Array Value))) (λb o hb e=>(Heap.get?_update_ne _ _ _ _ hb).trans e) pk.2.1 (nL _ ⋯) (.inr ⋯) (nC _ ⋯) (nP _ ⋯);have ga:(C.heap.update M (Obj.mapSeq λ_=>(#[]:Array Value))).get? s.heap.objs.size=some (seqObj "list" #[] e1):=(Heap.get?_update_ne _ _ _ _ (λz=>by have z2:(s.heap.objs.size:Nat)=s.heap.objs.size+1+1:=Eq.trans z a4;omega)).trans p0.1;have Ic:=Ib.adopt (t':=C.toks) (a:=s.heap.objs.size) (o:=.lst zv) (h':=TS.keyEnd C.heap s.heap.objs.size M out.toArray) (λb u hb e=>(Heap.get?_update_ne _ _ _ _ hb).trans e) p0.2.1 (nL _ (K4 _)) nS (nC _ (K4 _)) (nP _ (K4 _))
    (show b8 X.prog X.w _ _ _ (.lst zv) from⟨a0,out,_,vo,get?_update_seq ga _⟩)
   exact⟨.ref s.heap.objs.size,_,Ic,rfl,qq _ _ (bz sm a1) a1 af⟩
end
def tT(K:Ly)(P:List Str->Prop)(g:List Str->Int)(t:TA):TE:=λσ H Q=>t σ H λxs H1=>∃(p a:Addr) (es:List VE),xs=[.ref p]/\H1 p=some (vj p a)/\H1 a=some (.dK (es.map Hj))/\(∀e,e∈es->aN K H1 e.2.1 (e.2.2.map V.str)/\P e.2.2) /\
 ∀zs:List VE,zs.Perm es->gJ g zs->∀(H':Hp) (l:Addr),aD H1 H'->H1 l=none->H' l=some (.lst (zs.map Bt))->Q (.ref l) H'
section
variable {X:Cx}{e:Expr}{t:TA}{p fp pos kpos:Pos}{k:Nat}{fx:Str}{ps:LI}{sp:Sp}{P:List Str->Prop}{g:List Str->Int}
theorem zN(hr:c8 (k+2) X.A)(hc:X.calm=true)(hg:Gl X "sorted")(hm:X.mg "sorted"=none)(C:dP X.prog X.w X.K X.mg X.base bJ k fx ps sp)(hgf:Gl X fx)
  (hsp:∀l ss H Q E,aN X.K H l (ss.map V.str)->P ss->(∀t,H t=none->Q (.ref t) (aE H t (.tup [.int (g ss),.ref l])))->sp [.ref l] H Q E) (ha:PA X [e] t) (hdb:autoParam ((fx==("__debug__":Str))=false) zz3._auto_1)
  (he:autoParam (backTo pos (starEach [e] X.env)=(false,eval e X.env)::backTo pos (starEach [] X.env)) zz0._auto_1) (hpl:autoParam ((backTo pos (starEach [e] X.env)).any (·.1)=false) zz0._auto_1)
  (hall:autoParam ((backToKw pos (keywordEach [⟨some "key",.Name fx fp,kpos⟩] X.env)).all (·.1.isSome)=true) zz0._auto_1) (hkw:autoParam ((backToKw pos (keywordEach [⟨some "key",.Name fx fp,kpos⟩] X.env)).any (·.1.isNone)=false) zz0._auto_1)
  (hks:autoParam ((backToKw pos (keywordEach [⟨some "key",.Name fx fp,kpos⟩] X.env)).filterMap (·.1)=[Str.ofString "key"]) zz0._auto_1) :
  PE X (.Call (.Name "sorted" p) [e] [⟨some "key",.Name fx fp,kpos⟩] pos) (tT X.K P g t):=by
 obtain⟨f,fd,F,G,hkf,L⟩:=C.ex;intro c s σ H Q I h;have hb:bootBuiltins "sorted"=some (.builtin "sorted"):=by decide +kernel
 refine wpAny_Call_Name_kw (eV I hg hm hb ?_);refine callWith_kw (cz (ha pos c s σ H _ I h) λus Y ⟨vs,H1,I1,r,q⟩=>?_) he hpl hall hkw;have hk:PK X [⟨some "key",.Name fx fp,kpos⟩] (jB (tC (.ref f)) om):=CN (du hgf G rfl hdb) Ez;refine cz (hk pos c Y σ H1 (λR H2=>R=[.ref f]/\H2=H1) I1 ⟨rfl,rfl⟩) λws s2 ⟨R,H2,B,Z,ez,eh⟩=>?_;subst ez eh;rw[hks];obtain⟨S,a,y,rfl,hp,O,J,q3⟩:=q;obtain⟨u,rfl,ru⟩:=r.one;cases ru;obtain⟨u2,rfl,D⟩:=Z.one;cases D;show wpAny _ _ (call (.builtin "sorted") [.ref S] [(Str.ofString "key",.ref f)]) _ _ _;refine TS.sorted_key ?_;obtain⟨z,hd,vs,m,dd⟩:=qY B.hok O;obtain⟨ep,da⟩:=dd.dictAt;obtain⟨hv,_⟩:=B.hok _ _ hp;have n:vs.length=y.length:=by rw[<- m.length,KD]
 have hz:y.length<=sizeLine:=by rw[KD]at z;exact z
 refine TS.collect_src (PySem.W.kdl_values (knd:=b5 X.prog X.w) (r:=S) (d:=a) (kvs:=vs) (ep:=ep)) (B.ok.hd hc) ⟨hv,da⟩ ⋯ λh' U acc' kp j=>?_;have I3:=B.kept (t':=U) kp;refine DM F L hr hsp I3 (by rw[Array.length_toList,j.1,n]) hz (λi x hx=>?_) J q3;obtain⟨kk,o⟩:=j.2 i x (by simpa using hx);have T:i<y.length:=by have:=(KA.mp o).1;omega
 refine⟨y[i],Kz T,?_⟩;have:=nR m (i:=i) (a:=Hj y[i]) (by rw[KG,Kz T];rfl);obtain⟨b,v,_,M⟩:=this;rw[o]at v;cases v;exact M
end
theorem mf{β:Type}{g:TG}{ti:TT}{te:TE}{σ:St}{Q:List V->Hp->Prop}{n:Nat}{emb:β->V}(B:β->Prop)(S:St->Prop)(h0:S σ)(hn:n<=1000000)
  (hs:∀i,i<n->∀σ H' (N1:V->St->Hp->Prop) (N0:St->Hp->Prop),S σ->aD H H'->(∀y σ2 H2,B y->aD H H2->S σ2->N1 (emb y) σ2 H2) ->
   g (.int (0+(i:Int))) σ H' λσ2 H3=>ti σ2 H3 λb H4=>if b=true then te σ2 H4 λv H5=>N1 v σ2 H5 else N0 σ2 H4)
  (he:∀(ys:List β) H',ys.length=n->(∀y∈ys,B y)->aD H H'->Q (ys.map emb) H'):fJ (xV 0 n) g ti te σ H Q:=by
 refine gY (lo:=0) (n:=n) (λi a σ H'=>aD H H'/\(∃ys:List β,a=ys.map emb/\ys.length=i/\∀y∈ys,B y)/\i<=n/\S σ) ⟨λ_ _ e=>e,⟨[],rfl,rfl,λy d=>nomatch d⟩,K5 _,h0⟩ ?_ ?_ ?_ ?_
 ·rintro i a σ H' ⟨_,⟨ys,rfl,c,_⟩,j,_⟩
  rw[KD];exact aR ⋯
 ·rintro i a σ H' ⟨_,_,h,_⟩
  exact h
 ·rintro i a σ H' j ⟨sm,⟨ys,rfl,c,k⟩,_,m⟩
  refine hs i j σ H' (λv σ2 H5=>_) (λσ2 H4=>_) m sm (λy σ2 H2 d s2 hS2=>⟨s2,⟨ys++[y],by rw[KQ];rfl,by rw[K3];exact q0R (· + 1) c,λz l=>?_⟩,j,hS2⟩);rcases KR.mp l with h | h
  ·exact k z h
  ·rw[KF.mp h];exact d
 ·rintro a σ H' ⟨sm,⟨ys,rfl,c,k⟩,_⟩
  exact he _ _ c k sm
def yS(a:Addr)(od:Obj)(kvs:List (cL×V)):It:=
 ⟨λi H=>H a=some (.frz od (.dK kvs))/\i<kvs.length,λi H x H'=>H'=H/\∃kv,x=kV kv.1/\kvs[i]?=some kv,λi H=>H a=some (.frz od (.dK kvs))/\kvs.length<=i⟩
theorem z_{es:List DictEntry}(h:Pairs (b5 P w) es vs):∀{i:Nat} {y:cL×Value},vs[i]?=some y->∃en,es[i]?=some en/\(b5 P w).is y.1 en.key=true:=by
 induction h with
 |nil=>intro i y e;simp at e
 |cons h1 h2 _ ih=>
  intro i y e;cases i with
  |zero=>rw[List.getElem?_cons_zero]at e;cases e;exact⟨_,rfl,h1⟩
  |succ i=>exact ih e
theorem xg{od:Obj}(ok:i4 P w H h)(e:H a=some (.frz od (.dK kvs))):h.get? a=some od/\∃es ep,od.ExactDict/\od.data=.dict es ep/\es.size=kvs.length/\(a==sysModules)=false/\∀(i:Nat) kv,kvs[i]?=some kv->∃en,es[i]?=some en/\bH (kV kv.1) en.key:=by
 obtain⟨d,_,l,vs,b,o,es,ep,g,k,p,hk,c,hn⟩:=(show b8 P w H h a (.frz od (.dK kvs)) from ok a _ e);rw[d]at g;cases g;refine⟨d,es,ep,k,p,?_,l,λi kv m=>?_⟩
 ·rw[<- Array.length_toList,c.length,<- iT b]
 ·obtain⟨y,j,h1,h2⟩:=kJ b m
  obtain⟨en,n,jS⟩:=z_ c j;exact⟨en,by rw[<- q0G];exact n,by rw[h1];exact Ee jS⟩
theorem CF{K:Ly}{tg:Expr}(a it:Addr)(od:Obj)(kvs:List (cL×V))(ep:Nat)(es:Array DictEntry)(hd:od.data=.dict es ep)(hn:es.size=kvs.length):qd P w K tg (yS a od kvs) [it] it (λi h=>h.IsKeyIter it a i es.size ep) where
 mem:=by simp
 obj:=λi h g b l=>by
  have e:b=it:=by simpa using l
  subst e;obtain⟨o,e,c,d⟩:=g;exact⟨o,e,λv z=>by rw[d]at z;cases z⟩
 keep:=λi h p g k=>by
  obtain⟨o,e,c,d⟩:=g;exact⟨o,k it (by simp) o e,c,d⟩
 item:=by
  intro X u q x M i j s σ H E I hf g hg;subst u q x;obtain⟨J,G,f2,D,C,B⟩:=hf it (by simp);obtain⟨y,r⟩:=hg;obtain⟨L,es',ep',hx',n,hn',hs',R⟩:=xg I.hok y;rw[hd]at n;cases n;obtain⟨en,h1,h2⟩:=R i _ (Kz r);refine xE g L hd h1 λp m O=>?_;have T:Inv X j σ H {s with heap:=p }:=I.turned (t':=s.toks) (λb o l e=>(O.2 b l).trans e) J G D C B;obtain⟨o,e,c,d⟩:=id m;exact⟨_,rfl,qt (s:={s with heap:=p }) e c d (by decide) ⟨_,H,T,h2,⟨rfl,_,rfl,Kz r⟩,m,λb l=>(hf b l).1⟩⟩
 done:=by
  intro X u q x M i j s σ H E I hf g hg;subst u q x;obtain⟨J,G,f2,D,C,B⟩:=hf it (by simp);obtain⟨y,r⟩:=hg;obtain⟨L,_⟩:=xg I.hok y;exact BV (I.ok.hd M) g L hd ⋯ λp S=>⟨rfl,I.turned (t':=s.toks) (λb o l e=>S b o l e) J G D C B⟩
 self:=λA i s Q E g h=>wpAny_pyIter_keyiter g h
section
variable {X:Cx}{pins:Lz}{σ:St}{H:Hp}{s:LB}
theorem Inv.freezeK(I:Inv X pins σ H s){a:Addr}{kvs:List (cL×V)}(h:H a=some (.dK kvs)):∃o,Inv X pins σ (aE H a (.frz o (.dK kvs))) s:=by
 obtain⟨z,y,i,pr,o,es,ep,g,r⟩:=(show b8 X.prog X.w H s.heap a (.dK kvs) from I.hok a _ h);refine⟨o,?_⟩;have d:∀b u,H b=some u->(∀ks,u≠.dK ks)->aE H a (.frz o (.dK kvs)) b=some u:=λb u e l=>by
  rw[av (λq=>by rw[q,h]at e;cases e;exact l _ rfl)];exact e
 have hok:i4 X.prog X.w (aE H a (.frz o (.dK kvs))) s.heap:=λb u e=>by
  have j:∀{u:HO},b8 X.prog X.w H s.heap b u->b8 X.prog X.w (aE H a (.frz o (.dK kvs))) s.heap b u:=λq=>q.stay (λc v _ q=>q) (λc q=>d c _ q (by intro ks z;cases z)) λc i q=>d c _ q (by intro ks z;cases z)
  by_cases k:b=a
  ·subst k
   rw[af]at e;cases e;exact⟨g,j (I.hok b _ h)⟩
  ·rw[av k]at e
   exact j (I.hok b u e)
 have un:Un X.fs [] H (aE H a (.frz o (.dK kvs))) s.heap s.heap:=⟨λb o e _ _ _=>e,λb o e _ _ _=>⟨o.slots,e⟩,λb o' _ n _=>by rw[av (λq=>by rw[q,h]at n;cases n)];exact n,λb o e _=>⟨o,e⟩,λb i e=>d b _ e (by intro ks z;cases z),λb o u e=>d b _ e (by intro ks z;cases z),λb ps e=>⟨#[],by rw[d b _ e (by intro ks z;cases z)];simp⟩⟩;exact I.un (h':=s.heap) (t':=s.toks) un hok
end
section
variable {X:Cx}{tg:Expr}
def G1(td:TE):TI:=λσ H R=>td σ H λx H1=>∃a kvs,x=.ref a/\((H1 a=some (.dK kvs)/\∀o,R (yS a o kvs) (aE H1 a (.frz o (.dK kvs))))\/∃o,H1 a=some (.frz o (.dK kvs))/\R (yS a o kvs) H1)
theorem FM{td:TE}(he:PE X e td):PI X tg e (G1 td):=by
 intro c s σ H R I h;refine cz (he c s σ H _ I h) λu j ⟨x,H1,l,m,a,d,y,q⟩=>?_;subst y;obtain rfl:u=Value.ref a:=m;obtain⟨o,H2,i,C,n⟩:∃o H2,Inv X c σ H2 j/\H2 a=some (.frz o (.dK d))/\R (yS a o d) H2:=by
  rcases q with⟨e,q⟩ | ⟨o,e,q⟩
  ·obtain⟨o,i⟩:=l.freezeK e
   exact⟨o,_,i,af,q o⟩
  ·exact⟨o,H1,l,e,q⟩
 obtain⟨g,z,B,p,k,v,r,_⟩:=xg i.hok C;refine yb g p k r ?_;refine⟨j.heap.objs.size,[j.heap.objs.size],_,_,H2,rfl,i.kept (t':=j.toks) λb o e=>KC _ e,CF a _ o d B z k v,⟨_,KJ _ rfl,rfl,rfl⟩,λb w=>?_,n⟩;have e:b=j.heap.objs.size:=by simpa using w
 subst e;exact i.fpOk (K4 _) (i.hok.fresh (K4 _))
end
section
variable {g:TG}{tb:TS}{D:fF}{σ:St}{H:Hp}
theorem C_{kvs:List (cL×V)}(Pv:Nat->St->Hp->Prop)(h0:Pv 0 σ H)(hl:∀i σ H,i<=kvs.length->Pv i σ H->H a=some (.frz o (.dK kvs)))
  (hs:∀(i:Nat) kv σ H,kvs[i]?=some kv->Pv i σ H->g (kV kv.1) σ H λσ2 H2=>tb {D with nx:=Pv (i+1),ct:=Pv (i+1),bk:=D.nx} σ2 H2) (hd:∀σ H,Pv kvs.length σ H->D.nx σ H):rK (yS a o kvs) g tb D σ H:=by
 refine⟨λi m σ H=>m=kvs.length-i/\i<=kvs.length/\Pv i σ H,⟨kvs.length,by simp,K5 _,h0⟩,?_⟩;rintro i m σ H ⟨rfl,d,p⟩;have q:=hl i σ H d p
 by_cases b:i<kvs.length
 ·refine .inr ⟨⟨q,b⟩,Pv (i+1),λσ2 H2 w2=>⟨kvs.length-(i+1),⋯,rfl,b,w2⟩,λx H2 y=>?_⟩
  obtain⟨rfl,kv,rfl,c⟩:=y;exact hs i kv σ _ c p
 ·have e:i=kvs.length:=by omega
  subst e;exact .inl ⟨⟨q,K4 _⟩,hd _ _ p⟩
end
end L2
namespace aL
def oU(sb:Bool)(p q:aL):aL:=if sb=true then(p.zip q).map λx=>x.1++x.2 else p++q
theorem u6(hp:rect p r c)(hq:rect q r c'):rect (oU true p q) r (c+c'):=by
 unfold oU;rw[q07 rfl];refine⟨by rw[KD,q0N,hp.1,hq.1,Nat.min_self],λx b=>?_⟩;obtain⟨⟨u,v⟩,a,rfl⟩:=Lm.mp b;have:=List.of_mem_zip a;rw[K3,hp.2 u this.1,hq.2 v this.2]
theorem vT(hp:rect p r c)(hq:rect q r' c):rect (oU false p q) (r+r') c:=by
 unfold oU;rw[q06 (by decide)];refine⟨by rw[K3,hp.1,hq.1],λx a=>?_⟩;rcases KR.mp a with h | h
 ·exact hp.2 x h
 ·exact hq.2 x h
end aL
namespace Win
abbrev Wn:=List Int
def wn(t l b r:Nat):Wn:=[(t:Int),(l:Int),(b:Int),(r:Int)]
def W4(t l b n:Nat):List Wn:=(List.range n).map λk=>wn t l b (l+1+k)
def W3(c t l n:Nat):List Wn:=(List.range n).flatMap λk=>W4 t l (t+1+k) (c-l)
def W2(r c t n:Nat):List Wn:=(List.range n).flatMap λl=>W3 c t l (r-t)
def W1(r c n:Nat):List Wn:=(List.range n).flatMap λt=>W2 r c t c
def jO(r c:Nat):List Wn:=W1 r c r
theorem DW(t l b n:Nat):W4 t l b (n+1)=W4 t l b n++[wn t l b (l+1+n)]:=by unfold W4;rw[q0M,KQ];rfl
theorem Dc(c t l n:Nat):W3 c t l (n+1)=W3 c t l n++W4 t l (t+1+n) (c-l):=by unfold W3;rw[q0M,List.flatMap_append];simp
theorem Dl(r c t n:Nat):W2 r c t (n+1)=W2 r c t n++W3 c t n (r-t):=by unfold W2;rw[q0M,List.flatMap_append];simp
theorem CP(r c n:Nat):W1 r c (n+1)=W1 r c n++W2 r c n c:=by unfold W1;rw[q0M,List.flatMap_append];simp
def lt:Wn->Wn->Bool
 | [],[]=>false
 | [],_::_=>true
 |_::_,[]=>false
 |x::xs,y::ys=>if x=y then lt xs ys else decide (x<y)
def good(r c:Nat):Wn->Bool
 | [t,l,b,x]=>decide (0<=t)&&decide (t<b)&&decide (b<=(r:Int))&&decide (0<=l)&&decide (l<x)&&decide (x<=(c:Int))
 |_=>false
def BF:Wn->List Wn->Bool
 |_,[]=>true
 |a,w::ws=>lt a w&&BF w ws
def check(r c:Nat):Bool:=(jO r c).all (good r c)&&BF [-1,0,0,0] (jO r c)&&((jO r c).length==r*(r+1)/2*(c*(c+1)/2))&&decide ((jO r c).length<=1000)
theorem yD:((List.range 6).all λr=>(List.range 6).all λc=>check (r+1) (c+1))=true:=by decide +kernel
theorem DJ{r c:Nat}(hr0:0<r)(hr:r<=6)(hc0:0<c)(hc:c<=6):check r c=true:=by
 have h:=Ln.mp yD (r-1) (List.mem_range.mpr ⋯);have h2:=Ln.mp h (c-1) (List.mem_range.mpr ⋯);have b:r-1+1=r:=by omega
 have a:c-1+1=c:=by omega
 rw[b,a]at h2;exact h2
def cut(p:List (List Nat))(t l b x:Nat):List (List Nat):=((p.drop t).take (b-t)).map λrow=>(row.drop l).take (x-l)
end Win
namespace SnM
open PySem L2 aL QL Win
def bQ(p:aL):Prop:=∀row∈p,47∉row
theorem zU(h:bQ p):bQ (mirror p):=by
 intro row hr;obtain⟨x,a,rfl⟩:=Lm.mp hr;rw[List.mem_reverse];exact h x a
theorem vE(hp:rect p r c)(hr:0<r)(h:bQ p):bQ (bF p):=by
 intro row a;unfold bF at a;rw[bf hp hr]at a;obtain⟨i,g,rfl⟩:=Lm.mp a;have g:=List.mem_range.mp g;intro d;obtain⟨x,j,e⟩:=Lm.mp d;have b:=List.mem_reverse.mp j;have hl:=hp.2 x b;rw[q0A,Kz ⋯,q0L]at e;exact h x b (e▸KM _)
theorem iL:∀(n:Nat) {p:aL} {r c:Nat},rect p r c->0<r->0<c->bQ p->bQ (aT n p)
 |0,_,_,_,_,_,_,h=>h
 |n+1,p,r,c,hp,hr,hc,h=>by
  have e:aT (n+1) p=bF (aT n p):=(cM 1 n p).symm;rw[e];have hq:=cZ n hp hr hc;refine vE hq ?_ (iL n hp hr hc h)
  split<;>assumption
theorem qN(hp:rect p r c)(hr:0<r)(hc:0<c)(h:bQ p)(t:Nat):bQ (turned p t):=by
 unfold turned
 split
 ·exact iL _ (cw hp) hr hc (zU h)
 ·exact iL _ hp hr hc h
theorem En{t:Nat}(h:bQ p):bQ (cut p t l b x):=by
 intro row hr;obtain⟨y,c,rfl⟩:=Lm.mp hr;exact λa=>h y (q0I (q0H c)) (q0I (q0H a))
theorem cI{t l b x:Nat}(hp:rect p r c)(h1:t<b)(h2:b<=r)(h3:l<x)(h4:x<=c):rect (cut p t l b x) (b-t) (x-l):=by
 refine⟨?_,λrow hr=>?_⟩
 ·unfold cut;rw[KD,Lg,Lh,hp.1];omega
 ·obtain⟨y,a,rfl⟩:=Lm.mp hr
  have:=hp.2 y (q0I (q0H a));rw[Lg,Lh];omega
theorem oI{w:Wn}:w∈jO r c↔∃t l b x:Nat,w=wn t l b x/\t<b/\b<=r/\l<x/\x<=c:=by
 unfold jO W1 W2 W3 W4;simp only[List.mem_flatMap,Lm,List.mem_range]
 constructor
 ·rintro⟨t,ht,l,hl,k,hk,m,hm,rfl⟩
  exact⟨t,l,t+1+k,l+1+m,rfl,⋯,⋯,⋯,⋯⟩
 ·rintro⟨t,l,b,x,rfl,h1,h2,h3,h4⟩
  exact⟨t,⋯,l,⋯,b-t-1,⋯,x-l-1,⋯,by rw[show t+1+(b-t-1)=b by omega,show l+1+(x-l-1)=x by omega]⟩
def DU(p:aL)(w:Wn):aL:=cut p (w.getD 0 0).toNat (w.getD 1 0).toNat (w.getD 2 0).toNat (w.getD 3 0).toNat
theorem mT(p:aL)(t l b x:Nat):DU p (wn t l b x)=cut p t l b x:=rfl
def ba(p:aL)(r c:Nat)(q:aL):Prop:=∃t l b x u:Nat,t<b/\b<=r/\l<x/\x<=c/\u<8/\q=turned (cut p t l b x) u
theorem zf:ba p r c q↔∃i,i<(jO r c).length/\∃u,u<8/\q=turned (DU p ((jO r c).getD i [])) u:=by
 constructor
 ·rintro⟨t,l,b,x,u,h1,h2,g,d,k,rfl⟩
  obtain⟨i,a,e⟩:=List.mem_iff_getElem.mp (oI.mpr ⟨t,l,b,x,rfl,h1,h2,g,d⟩);refine⟨i,a,u,k,?_⟩;rw[q0A,Kz a,q0L,e,mT]
 ·rintro⟨i,a,u,j,rfl⟩
  obtain⟨t,l,b,x,e,h1,h2,g,d⟩:=oI.mp (KM a);refine⟨t,l,b,x,u,h1,h2,g,d,j,?_⟩;rw[q0A,Kz a,q0L,e,mT]
theorem tN(hp:rect p r c)(hn:bQ p){t l b x u:Nat}(h1:t<b)(h2:b<=r)(h3:l<x)(h4:x<=c) :
  turned (cut p t l b x) u≠[]/\bQ (turned (cut p t l b x) u)/\∃r' c',rect (turned (cut p t l b x) u) r' c'/\0<r'/\0<c'/\r'<=max r c/\c'<=max r c:=by
 have d:=cI hp h1 h2 h3 h4;have a:=cO d ⋯ ⋯ u;refine⟨λe=>?_,qN d ⋯ ⋯ (En hn) u,_,_,a,by split<;>omega,by split<;>omega,by split<;>omega,by split<;>omega⟩;have:=a.1;rw[e]at this;simp at this
 split at this<;>omega
abbrev AP:=Addr×aL
def EK(z:AP):VE:=(.inr (tx (SpM.glue 47 z.2)),z.1,z.2.map tx)
abbrev eU(z:AP):cL×V:=Hj (EK z)
def kx(zs:List AP)(z:AP):List AP:=if(zs.any λz0=>decide (z0.2=z.2))=true then zs.map (λz0=>if z0.2=z.2 then z else z0) else zs++[z]
theorem tx_inj(h:tx a=tx b):a=b:=by rw[<- cX a,<- cX b,h]
theorem B6{zs:List AP}{z:AP}(inj:∀z0∈zs,SpM.glue 47 z0.2=SpM.glue 47 z.2->z0.2=z.2):dE (zs.map eU) (.inr (tx (SpM.glue 47 z.2))) (.ref z.1)=(kx zs z).map eU:=by
 have b:∀z0∈zs,((eU z0).1=Sum.inr (tx (SpM.glue 47 z.2))↔z0.2=z.2):=λz0 c=>⟨λe=>inj z0 c (tx_inj (Sum.inr.inj e)),λe=>by show Sum.inr (tx (SpM.glue 47 z0.2))=_;rw[e]⟩;unfold dE kx;have i:((zs.map eU).any λg=>decide (g.1=Sum.inr (tx (SpM.glue 47 z.2))))=zs.any λz0=>decide (z0.2=z.2):=by
  rw[List.any_map];clear inj
  induction zs with
  |nil=>rfl
  |cons a l ih=>
   rw[List.any_cons,List.any_cons,ih λz0 c=>b z0 (KW _ c)]
   congr 1
   exact decide_eq_decide.mpr (b a (q0B ..))
 rw[i]
 split
 ·rw[KS,KS]
  refine q0K λz0 c=>?_;show(if(eU z0).1=Sum.inr (tx (SpM.glue 47 z.2)) then((eU z0).1,V.ref z.1) else eU z0)=eU (if z0.2=z.2 then z else z0)
  by_cases h:z0.2=z.2
  ·have d:=(b z0 c).mpr h
   rw[q07 d,q07 h,d]
   rfl
  ·rw[q06 λq=>h ((b z0 c).mp q),q06 h]
 ·rw[KQ];rfl
structure dG(H H':Hp)(d:Addr)(dn:aL->Prop)(zs:List AP)(n:Nat):Prop where
 tbl:H' d=some (.dK (zs.map eU))
 sm:aD H H'
 hd:H d=none
 each:∀z∈zs,H z.1=none/\H' z.1=some (.lst (au z.2))/\z.2≠[]/\bQ z.2/\(z.2.headD []).length<=64
 nda:(zs.map (·.1)).Nodup
 ndp:(zs.map (·.2)).Nodup
 mem:∀q,q∈zs.map (·.2)↔dn q
 len:zs.length<=n
theorem dG.step{H H1 H2:Hp}{d b:Addr}{dn:aL->Prop}{zs:List AP}{q:aL}{n:Nat}(S:dG H H1 d dn zs n)(sm:aD H1 H2)(hb:H1 b=none)(hb2:H2 b=some (.lst (au q)))(hq:q≠[])(ns:bQ q)(hl:(q.headD []).length<=64) :
  dE (zs.map eU) (.inr (tx (SpM.glue 47 q))) (.ref b)=(kx zs (b,q)).map eU/\dG H (aE H2 d (.dK ((kx zs (b,q)).map eU))) d (λx=>dn x\/x=q) (kx zs (b,q)) (n+1):=by
 refine⟨B6 (z:=(b,q)) λz0 h0 e=>SpM.glue_inj 47 (S.each z0 h0).2.2.1 hq (S.each z0 h0).2.2.2.1 ns e,?_⟩;have nbd:b≠d:=λe=>by rw[e,S.tbl]at hb;cases hb
 have nzd:∀z∈zs,z.1≠d:=λz hz=>oV (S.each z hz).2.1 S.tbl (by intro e;cases e);have nzb:∀z∈zs,z.1≠b:=λz hz=>aK (S.each z hz).2.1 hb;have old:∀z∈zs,H z.1=none/\aE H2 d (.dK ((kx zs (b,q)).map eU)) z.1=some (.lst (au z.2))/\z.2≠[]/\bQ z.2/\(z.2.headD []).length<=64:=λz hz=>by
  obtain⟨h1,h2,h3⟩:=S.each z hz;exact⟨h1,by rw[av (nzd z hz)];exact sm _ _ h2,h3⟩
 have new:H b=none/\aE H2 d (.dK ((kx zs (b,q)).map eU)) b=some (.lst (au q))/\q≠[]/\bQ q/\(q.headD []).length<=64:=⟨S.sm.free hb,by rw[av nbd];exact hb2,hq,ns,hl⟩
 by_cases h:(zs.any λz0=>decide (z0.2=q))=true
 ·have e:kx zs (b,q)=zs.map λz0=>if z0.2=q then(b,q) else z0:=by unfold kx;rw[q07 h]
  have e2:((kx zs (b,q)).map (·.2))=zs.map (·.2):=by
   rw[e,KS];refine q0K λz0 _=>?_;show(if z0.2=q then(b,q) else z0).2=z0.2
   split
   ·rename_i hz;exact hz.symm
   ·rfl
  obtain⟨z1,hz1,hz2⟩:=List.any_eq_true.mp h;have hz2:=of_decide_eq_true hz2;refine⟨af,bz (S.sm.trans sm) S.hd,S.hd,?_,?_,by rw[e2];exact S.ndp,λx=>?_,by rw[e,KD];exact Nat.le_succ_of_le S.len⟩
  ·intro z hz
   have hz':=hz;rw[e]at hz';obtain⟨z0,h0,ez⟩:=Lm.mp hz'
   split at ez
   ·rw[<- ez];exact new
   ·rw[<- ez];exact old z0 h0
  ·rw[e,KS,List.Nodup,List.pairwise_map]
   have h1:=S.nda;have h2:=S.ndp;rw[List.Nodup,List.pairwise_map]at h1 h2;refine(List.Pairwise.and_mem.mp (h1.and h2)).imp ?_;rintro x y ⟨hx,hy,n1,n2⟩;show(if x.2=q then(b,q) else x).1≠(if y.2=q then(b,q) else y).1
   by_cases c1:x.2=q
   ·rw[q07 c1,q06 λc2=>n2 (c1.trans c2.symm)]
    exact(nzb y hy).symm
   ·rw[q06 c1]
    by_cases c2:y.2=q
    ·rw[q07 c2];exact nzb x hx
    ·rw[q06 c2];exact n1
  ·rw[e2,S.mem]
   refine⟨.inl,λz=>z.elim id λz=>?_⟩;rw[<- S.mem,z];exact Lm.mpr ⟨z1,hz1,hz2⟩
 ·have e:kx zs (b,q)=zs++[(b,q)]:=by unfold kx;rw[q06 h]
  refine⟨af,bz (S.sm.trans sm) S.hd,S.hd,?_,?_,?_,λx=>?_,by rw[e,K3];exact Nat.succ_le_succ S.len⟩
  ·intro z hz
   have hz':=hz;rw[e]at hz';rcases KR.mp hz' with hz' | hz'
   ·exact old z hz'
   ·rw[KF.mp hz'];exact new
  ·rw[e,KQ,List.nodup_append]
   refine⟨S.nda,by simp,λa ha c hc=>?_⟩;obtain⟨z,hz,rfl⟩:=Lm.mp ha;have:c=b:=by simpa using hc
   rw[this];exact nzb z hz
  ·rw[e,KQ,List.nodup_append]
   refine⟨S.ndp,by simp,λa ha c hc=>?_⟩;obtain⟨z,hz,rfl⟩:=Lm.mp ha;have:c=q:=by simpa using hc
   rw[this];exact λhz2=>h (List.any_eq_true.mpr ⟨z,hz,q09 hz2⟩)
  ·rw[e,KQ,KR,S.mem]
   simp
theorem dG.congr{dn dn':aL->Prop}(S:dG H H' d dn zs n)(h:∀q,dn q↔dn' q):dG H H' d dn' zs n:=⟨S.tbl,S.sm,S.hd,S.each,S.nda,S.ndp,λq=>(S.mem q).trans (h q),S.len⟩
theorem dG.same{H2:Hp}{dn:aL->Prop}(S:dG H H' d dn zs n)(sm:aD H' H2):dG H H2 d dn zs n:=⟨sm _ _ S.tbl,S.sm.trans sm,S.hd,λz hz=>let ⟨h1,h2,h3⟩:=S.each z hz;⟨h1,sm _ _ h2,h3⟩,S.nda,S.ndp,S.mem,S.len⟩
def gt(ss:LI):Int:=(ss.length:Int)*((ss.headD ⟨#[]⟩).length:Int)
def bM(p:aL):Nat:=p.length*(p.headD []).length
def HK(a b:aL):Prop:=bM a<bM b\/bM a=bM b/\a<b
def FO(p:aL)(r c:Nat)(qs:List aL):Prop:=(∀q,q∈qs↔ba p r c q)/\qs.Pairwise HK
theorem xO(p:aL):((p.map tx).headD ⟨#[]⟩).length=(p.headD []).length:=by
 cases p with
 |nil=>rfl
 |cons r p=>exact aC r
theorem yJ(p:aL):gt (p.map tx)=(bM p:Int):=by
 unfold gt bM;rw[KD,xO];simp
theorem FZ(p:aL):TS.ks (p.map tx)=p:=by
 unfold TS.ks;rw[KS];exact(q0K λr _=>cX r).trans (List.map_id _)
theorem Ef(p:aL):kI (gt (p.map tx),p.map tx)=((bM p:Int),p):=by
 show(gt (p.map tx),TS.ks (p.map tx))=_;rw[yJ,FZ]
theorem yr{ws:List AP}(h:gJ gt (ws.map EK))(nd:(ws.map (·.2)).Nodup):(ws.map (·.2)).Pairwise HK:=by
 unfold gJ at h;rw[List.pairwise_map]at h ⊢;rw[List.Nodup,List.pairwise_map]at nd;refine(h.and nd).imp ?_;rintro a b ⟨c,e⟩;have c:TS.ordI.blt (kI (gt (b.2.map tx),b.2.map tx)) (kI (gt (a.2.map tx),a.2.map tx))=false:=c;rw[Ef,Ef]at c;cases d:TS.ordI.blt ((bM a.2:Int),a.2) ((bM b.2:Int),b.2) with
 |true=>
  have:=of_decide_eq_true d;rcases this with h1 | ⟨h1,h2⟩
  ·exact .inl (Int.ofNat_lt.mp h1)
  ·exact .inr ⟨Int.ofNat.inj h1,h2⟩
 |false=>
  have:=TS.ordI.total _ _ d c;exact q0Q (q0R Prod.snd this) e
theorem jQ{t l b x i j:Nat}(hp:rect p r c)(h2:b<=r)(h4:x<=c)(hi:i<b-t)(hj:j<x-l):Af (cut p t l b x) i j=Af p (t+i) (l+j):=by
 have h1:t+i<p.length:=by rw[hp.1];omega
 have h3:(p[t+i]).length=c:=hp.2 _ (KM _);have a:(cut p t l b x).getD i []=((p.getD (t+i) []).drop l).take (x-l):=by
  unfold cut;simp only[q0A];rw[KG,List.getElem?_take_of_lt hi,List.getElem?_drop,Kz h1]
  rfl
 unfold Af;rw[a];simp only[q0A];rw[List.getElem?_take_of_lt hj,List.getElem?_drop]
theorem v3{t l b x:Nat}(hp:rect p r c)(h1:t<b)(h2:b<=r)(h3:l<x)(h4:x<=c):cut (mirror p) t l b x=mirror (cut p t (c-x) b (c-l)):=by
 have d:=cI hp h1 h2 (show c-x<c-l by omega) (show c-l<=c by omega);refine j_ (cI (cw hp) h1 h2 h3 h4) (r:=b-t) (c:=x-l) ?_ λi j a e=>?_
 ·have:=cw d
  rwa [show c-l-(c-x)=x-l by omega]at this
 ·rw[jQ (cw hp) h2 h4 a e,jd hp ⋯ ⋯,jd d a ⋯,jQ hp h2 ⋯ a ⋯]
  congr 1
  omega
theorem uz{t l b x:Nat}(hp:rect p r c)(h1:t<b)(h2:b<=c)(h3:l<x)(h4:x<=r):cut (bF p) t l b x=bF (cut p (r-x) t (r-l) b):=by
 have e:=cI hp (show r-x<r-l by omega) (show r-l<=r by omega) h1 h2;have a:=bT hp ⋯;refine j_ (cI a h1 h2 h3 h4) (r:=b-t) (c:=x-l) ?_ λi j d g=>?_
 ·have:=bT e ⋯
  rwa [show r-l-(r-x)=x-l by omega]at this
 ·rw[jQ a h2 h4 d g,cR hp ⋯ ⋯ ⋯,cR e ⋯ d ⋯,jQ hp ⋯ h2 ⋯ ⋯]
  congr 1
  omega
theorem hV:∀(n:Nat) {p:aL} {r c t l b x:Nat},rect p r c->t<b->b<=(if n%2=0 then r else c)->l<x->x<=(if n%2=0 then c else r)->∃t' l' b' x',t'<b'/\b'<=r/\l'<x'/\x'<=c/\cut (aT n p) t l b x=aT n (cut p t' l' b' x')
 |0,p,r,c,t,l,b,x,hp,h1,h2,h3,h4=>⟨t,l,b,x,h1,by simpa using h2,h3,by simpa using h4,rfl⟩
 |n+1,p,r,c,t,l,b,x,hp,h1,h2,h3,h4=>by
  have hr:0<r/\0<c:=by
   split at h2<;>split at h4<;>omega
  have e:∀q:aL,aT (n+1) q=aT n (bF q):=λq=>rfl;rw[e];obtain⟨t',l',b',x',g,d,k,j,i⟩:=hV n (bT hp hr.1) (t:=t) (l:=l) (b:=b) (x:=x) h1 (by
   by_cases a:n%2=0
   ·rw[q06 ⋯]at h2;rw[q07 a];exact h2
   ·rw[q07 ⋯]at h2;rw[q06 a];exact h2) h3 (by
   by_cases a:n%2=0
   ·rw[q06 ⋯]at h4;rw[q07 a];exact h4
   ·rw[q07 ⋯]at h4;rw[q06 a];exact h4)
  refine⟨r-x',t',r-l',b',⋯,⋯,g,d,?_⟩;rw[i,uz hp g d k j,e]
theorem wy{t l b x u:Nat}(hp:rect p r c)(h1:t<b)(h2:b<=(if u%2=0 then r else c))(h3:l<x)(h4:x<=(if u%2=0 then c else r)):∃t' l' b' x',t'<b'/\b'<=r/\l'<x'/\x'<=c/\cut (turned p u) t l b x=turned (cut p t' l' b' x') u:=by
 have e:u%4%2=u%2:=by omega
 unfold turned
 by_cases h:4<=u
 ·rw[q07 h]
  obtain⟨t',l',b',x',d,a,j,i,g⟩:=hV (u%4) (cw hp) h1 (by rw[e];exact h2) h3 (by rw[e];exact h4);refine⟨t',c-x',b',c-l',d,a,⋯,⋯,?_⟩;rw[g,v3 hp d a j i,q07 h]
 ·rw[q06 h]
  obtain⟨t',l',b',x',d,a,j,i,g⟩:=hV (u%4) hp h1 (by rw[e];exact h2) h3 (by rw[e];exact h4);refine⟨t',l',b',x',d,a,j,i,?_⟩;rw[g,q06 h]
theorem CQ{t l b x t' l' b' x':Nat}(hp:rect p r c)(h1:t<b)(h2:b<=r)(h3:l<x)(h4:x<=c)(k1:t'<b')(k2:b'<=b-t)(k3:l'<x')(k4:x'<=x-l):cut (cut p t l b x) t' l' b' x'=cut p (t+t') (l+l') (t+b') (l+x'):=by
 have a:=cI hp h1 h2 h3 h4;have g:=cI hp (show t+t'<t+b' by omega) ⋯ (show l+l'<l+x' by omega) ⋯;refine j_ (cI a k1 k2 k3 k4) (r:=b'-t') (c:=x'-l') ?_ λi j e d=>?_
 ·rwa [show t+b'-(t+t')=b'-t' by omega,show l+x'-(l+l')=x'-l' by omega]at g
 ·rw[jQ a k2 k4 e d,jQ hp h2 h4 ⋯ ⋯,jQ hp ⋯ ⋯ ⋯ ⋯]
  congr 1<;>omega
theorem De(hp:rect p r c):cut p 0 0 r c=p:=by
 unfold cut;rw[Lw,Nat.sub_zero,Nat.sub_zero,q0F (by rw[hp.1];exact K4 _)]
 conv=>rhs;rw[<- List.map_id p]
 refine q0K λy a=>?_;rw[Lw,q0F (by rw[hp.2 y a];exact K4 _)];rfl
theorem qi(hp:rect p r c):p.take n=cut p 0 0 n c:=by
 unfold cut;rw[Lw,Nat.sub_zero,Nat.sub_zero]
 conv=>lhs;rw[<- List.map_id (p.take n)]
 refine q0K λy a=>?_;rw[Lw,q0F (by rw[hp.2 y (q0H a)];exact K4 _)];rfl
theorem qM(hp:rect p r c):p.drop n=cut p n 0 r c:=by
 unfold cut;rw[Nat.sub_zero,q0F (by rw[Lh,hp.1];exact K4 _)]
 conv=>lhs;rw[<- List.map_id (p.drop n)]
 refine q0K λy a=>?_;rw[Lw,q0F (by rw[hp.2 y (q0I a)];exact K4 _)];rfl
theorem qC(hp:rect p r c):(p.map λy=>y.take n)=cut p 0 0 r n:=by
 unfold cut;rw[Lw,Nat.sub_zero,Nat.sub_zero,q0F (by rw[hp.1];exact K4 _)]
 rfl
theorem qr(hp:rect p r c):(p.map λy=>y.drop n)=cut p 0 n r c:=by
 unfold cut;rw[Lw,Nat.sub_zero,q0F (by rw[hp.1];exact K4 _)];refine q0K λy a=>?_;rw[q0F (by rw[Lh,hp.2 y a];exact K4 _)]
theorem ba.rect(hp:rect p r c)(h:ba p r c q):∃r' c',rect q r' c'/\0<r'/\0<c'/\r'<=max r c/\c'<=max r c:=by
 obtain⟨t,l,b,x,u,h1,h2,e,d,h5,rfl⟩:=h;have a:=cI hp h1 h2 e d;exact⟨_,_,cO a ⋯ ⋯ u,by split<;>omega,by split<;>omega,by split<;>omega,by split<;>omega⟩
theorem ba.ns(hp:aL.rect p r c)(hn:bQ p)(h:ba p r c q):bQ q:=by
 obtain⟨t,l,b,x,u,h1,h2,d,a,h5,rfl⟩:=h;exact(tN hp hn h1 h2 d a).2.1
theorem ba.self(hp:aL.rect p r c)(r0:0<r)(c0:0<c):ba p r c p:=⟨0,0,r,c,0,r0,K4 _,c0,K4 _,⋯,by rw[lW,De hp]⟩
theorem ba.turned{u:Nat}(hp:aL.rect p r c)(h:ba p r c q)(hu:u<8):ba p r c (aL.turned q u):=by
 obtain⟨t,l,b,x,v,h1,h2,e,d,a,rfl⟩:=h;have g:=cI hp h1 h2 e d;exact⟨t,l,b,x,after v u,h1,h2,e,d,gG a hu,b7 g ⋯ ⋯ a hu⟩
theorem ba.cut{t l b x:Nat}(hp:aL.rect p r c)(h:ba p r c q)(hq:aL.rect q r' c')(h1:t<b)(h2:b<=r')(h3:l<x)(h4:x<=c'):ba p r c (Win.cut q t l b x):=by
 obtain⟨a,d,o,e,v,k,j,i,g,I,rfl⟩:=h;have n:=cI hp k j i g;have m:=cO n ⋯ ⋯ v;have J:r'=if v%2=0 then o-a else e-d:=by rw[<- hq.1,m.1]
 have L:c'=if v%2=0 then e-d else o-a:=by
  rw[<- bf hq ⋯,bf m (by split<;>omega)]
 obtain⟨y,G,M,w,m1,D,C,B,z⟩:=wy (u:=v) n h1 (by rw[<- J];exact h2) h3 (by rw[<- L];exact h4);rw[z,CQ hp k j i g m1 D C B];exact⟨a+y,d+G,a+M,d+w,v,⋯,⋯,⋯,⋯,I,rfl⟩
end SnM
set_option maxHeartbeats 4000000
namespace Q21
open PySem L2 aL QL Win SnM
local macro_rules|`(tactic|ext)=>do
 let f(s:String):Lean.MacroM _:=(s.splitOn ",").toArray.mapM λx=>let i:=Lean.mkIdent (x.splitOn "."|>.foldl .mkStr .anonymous);`(Lean.Parser.Tactic.simpLemma|$i:term)
 let g(s:String):Lean.MacroM _:=(s.splitOn ",").toArray.mapM λx=>let i:=Lean.mkIdent (x.splitOn "."|>.foldl .mkStr .anonymous);`(Lean.Parser.Tactic.simpLemma|↓$i:term)
 let c:="yx,tB,BN,xT,EV,p6,zA,Cq,xC,C4,tC,Et,vD,EB,Fi,HB,Ao,BA,wd,vP,tX,tT,wb,Eu,wF,BU,tZ,tP,A2,v_,wQ,wc,Fs,DA,ye,rm,tf,BB,Fb,xv,v7,su,Bi,o8,BM,Fh,sZ,Fn,Fq,GN,jB,om,l_,Hb,Dh,EH,Hn,Hz,Ex,G4,rH,Au,EC,E7,F3,GZ,uH,si,CA,Al,AR,By,G7,G1,Df,Es,xS,AZ,rf,xD,L2.start,K_,List.map_nil,KP,List.length_nil,List.replicate,List.cons_append,Lq,Nat.reduceAdd,Nat.reduceSub,List.getElem?_cons_zero,K9,List.set_cons_zero,List.set_cons_succ,uS,Cx.blk,r_,CS,BY,B7,Cx.wish,Cx.nox,E3,jA";let d<-f (c++",Iq,Kn,Kh,Ke,IR,Iw,IN,IZ,CU,E4,AL,Bl");let e<-f (c++",Lc,Option.some.injEq,V.int.injEq,V.str.injEq,V.ref.injEq,V.bl.injEq,List.cons.injEq,and_true,true_and,exists_and_left,exists_eq_left',exists_eq_left,decide_eq_true_eq,Bool.not_eq_true',decide_eq_false_iff_not,Db,Option.join_some,Nat.succ_eq_add_one,Nat.zero_add,exists_const,and_assoc,exists_eq,exists_eq',Int.reducePow,Int.reduceNeg,Int.reduceLT,or_true,true_or,reduceCtorEq,Int.zero_add,Bool.false_eq_true,Bool.not_true,Bool.not_false,AE,Eb,xB,xP,Ci,zw,Br,y4,rI");let h<-g "reduceIte,G0,Hk,Hv,HE,Hm,HC,G8,G5";let e:=e++h
 `(tactic|((try dsimp only[$d,*]);(try simp only[$e,*])))
set_option hygiene false in
local macro_rules|`(tactic|grind)=>`(tactic|(clear h1;refine aq λN1 h1=>?_;ext))
set_option hygiene false in
local macro_rules|`(tactic|symm)=>`(tactic|(refine aq λN1 h1=>?_;ext))
set_option hygiene false in
local macro_rules|`(tactic|walk_at "oc")=>`(tactic|(clear h2;refine aq λN2 h2=>?_;ext))
set_option hygiene false in
local macro_rules|`(tactic|ac_nf)=>`(tactic|(refine aq λN2 h2=>?_;ext))
set_option hygiene false in
local macro_rules|`(tactic|walk_at "f")=>`(tactic|refine F.ok sc (λvs H Q E h=>by cases h;subst_vars;rfl) (λcdv A outer s H vs Q E hr h=>?_))
set_option hygiene false in
local macro_rules|`(tactic|walk_at "c")=>`(tactic|exact⟨rfl,rfl,rfl,by decide +kernel,rfl,by decide +kernel,by decide +kernel⟩)
def fS(i:Nat):Stmt:=PySem.Challenge.pw_quiltlaw_k21_whole_table_by_a_model.main.body.getD i (.Pass ⟨0,0,0,0⟩)
def DC:Stmt->List Stmt
 | .ClassDef (body:=b) ..=>b
 |_=>[]
def jw(i j:Nat):Stmt:=(DC (fS i)).getD j (.Pass ⟨0,0,0,0⟩)
section
variable {P:LH}{w:LK}{K:W.Frag}{mg:LF}{base:Heap}
abbrev Fz(z:Str)(c:Nat):Bool:=!(Builtin.Str.occurrences z ⟨#[c]⟩ 0 z.length 1).isEmpty
abbrev lI:Stmt:=fS 33
def jy(r:LA)(z:Str):Bool:=r.all (Fz z)
inductive g_(vs:List V)(H:Hp)(Q:VK)(_E:XK):Prop
 |mk (r:LA) (z:Str) (_:vs=[.str (tx r),.str z]) (_:r.length<=100000) (_:∀H',aD H H'->Q (.bl (jy r z)) H')
theorem w8:aI ["text","letters"] ["text","letters"] (ax lI):=by walk_at "c"
theorem JT{i c:Nat}(h:(tx r).cps[i]?=some c):r[i]?=some c:=by
 rw[<- h];show r[i]?=r.toArray[i]?;simp
theorem Ha(r:LA):(tx r).cps.size=r.length:=by show r.toArray.size=_;simp
theorem vF{f:Addr}(F:dw K "only_of" "only_of" lI f fd)(nb:NB mg):↑bC 1 f fd ["text","letters"] g_:=by
 have sc:=w8;walk_at "f"
 ·obtain⟨r,z,rfl,hr',q⟩:=h
  refine⟨_,(ai (aP (aB (uK rfl) rfl nb.all Cg (ac (cq ["sign"] [1] rfl (bP.of (by kernel_rfl)) (by kernel_rfl) (EU (ar 0))
    (λ_ _ _ _=>(aw (i:=0) (by show(["sign","letters"]:List Str).Nodup;decide +kernel) rfl (Or.inl rfl))) (λ_ _ _ _=>b9) (λ_ _ _ _=>(mW zq (ar 0) (ar 1) (by with_unfolding_all rfl)))) ad)))),?_⟩
  ext;refine AX (x:=tx r) (λi a σ d=>d=H/\a=((r.take i).map (Fz z)).map V.bl/\i<=r.length/\∃x,σ=[x,some (.str z)]) ⟨rfl,rfl,K5 _,_,rfl⟩ ?_ ?_ ?_ ?_
  ·rintro i a σ d ⟨_,rfl,k,_⟩
   rw[KD,KD,Lg];exact aR ⋯
  ·rintro i a σ d ⟨_,_,h,_⟩
   rw[Ha];exact h
  ·rintro i c a σ d m ⟨rfl,rfl,k,y,rfl⟩
   have b:=JT m;have g:=(KA.mp b).1;ext;refine⟨?_,g⟩;rw[q0E,b];simp
  ·rintro a σ d ⟨rfl,rfl,_⟩ l j
   refine⟨_,aN.of af,?_⟩;rw[Ha,Lf];have e:(r.map (Fz z)).all id=jy r z:=by unfold jy;rw[List.all_map];rfl
   rw[e];exact q _ (ao j)
abbrev kZ:Stmt:=fS 34
abbrev Fo:Str:="ABCDEFGHIJKLMNOPQRSTUVWXYZ"
def di(r:LA):Bool:=decide (1<=r.length)&&decide (r.length<=4)&&jy r Fo
inductive jY(vs:List V)(H:Hp)(Q:VK)(_E:XK):Prop
 |mk (r:LA) (_:vs=[.str (tx r)]) (_:r.length<=100000) (_:∀H',aD H H'->Q (.bl (di r)) H')
theorem wf:aI ["text"] ["text"] (ax kZ):=by walk_at "c"
theorem w_{f:Addr}{t1 t2:Tok}(F:dw K "is_name" "is_name" kZ f fd)(nb:NB mg)(yau:mg "LONGEST_NAME"=some (.int 4 t1))(yaP:mg "CAPITALS"=some (.str "ABCDEFGHIJKLMNOPQRSTUVWXYZ" t2))(yad:↑dP 1 "only_of" ["text","letters"] g_):↑bC 2 f fd ["text"] jY:=by
 have sc:=wf;walk_at "f"
 ·obtain⟨r,rfl,a,q⟩:=h
  refine⟨_,(ai (aP (nv (uU (bE.m0 rp) (bE.m0 rp) aj (aB bi rfl nb.len aX (ac (ar 0) ad)) (du (v:=.int 4) rfl yau ⟨_,rfl⟩)) (tD (q00 yad hr (ac (ar 0) (ac (du (v:=.str "ABCDEFGHIJKLMNOPQRSTUVWXYZ") rfl yaP ⟨_,rfl⟩) ad))))))),?_⟩;ext;refine⟨by rw[aC];exact az ⋯,?_⟩;rw[aC];unfold di at q
  by_cases h1:1<=r.length
  ·rw[q07 ⋯]
   by_cases h2:r.length<=4
   ·rw[q07 ⋯]
    refine⟨r,_,rfl,a,λb sm=>?_⟩;have z:=q b sm;rw[q09 h1,q09 h2]at z;exact z
   ·rw[q06 ⋯]
    have z:=q H (λ_ _ e=>e);rw[q09 h1,q08 h2]at z;exact z
  ·rw[q06 ⋯]
   have z:=q H (λ_ _ e=>e);rw[q08 h1]at z;exact z
abbrev fZ:Stmt:=jw 35 0
inductive dt(K:W.Frag)(vs:List V)(H:Hp)(Q:VK)(_E:XK):Prop
 |mk (a C dx l:Addr) (n:LA) (c:Int) (ps:aL) (_:vs=[.ref a,.str (tx n),.int c,.ref l]) (_:H a=some (.ins C dx [])) (_:jF K C) (_:aJ K C "name") (_:aJ K C "cost") (_:aJ K C "part_names") (_:H l=some (.lst (au ps))) (_:ps.length<=1000) (_:(∀r∈n::ps,r.length<=100000)) (_:((∀r∈n::ps,di r=true)/\1<=c/\c<=9)) (_:∀H',aD H H'->Q .non (aE H' a (.ins C dx [("name",.str (tx n)),("cost",.int c),("part_names",.ref l)])))
theorem fA{st:Stmt}:PS X st (λ_ _ _=>False):=λ_ _ _ _ _ _ h=>h.elim
theorem sH:aI ["self","name","cost","part_names","text"] ["self","name","cost","part_names"] (ax fZ):=by walk_at "c"
theorem sR{f:Addr}(F:dw K "__init__" "Rule.__init__" fZ f fd)(nb:NB mg)(yaf:↑dP 2 "is_name" ["text"] jY):↑bC 3 f fd ["self","name","cost","part_names"] (dt K):=by
 have sc:=sH;walk_at "f"
 ·obtain⟨a,C,D,l,n,c,b,rfl,T,G,O,M,L,S,hpl,j,ok,good⟩:=h
  refine⟨_,(ae (aS PassesOwn.never rfl (bG (ay BE (bw (ac (ar 1) ad)) (ar 3))) (q02 4 sc.nd)
   (ai (bX (gy (fb (q00 yaf hr (ac (ar 4) ad)) λ_=>rfl))
   (ai fA)
   bj)))
   (ae (bX (PW.pt (qR (aQ (bE.m0 qQ) (ar 2) aj (a_ _)) (pH (aQ (bE.m0 mj) (ar 2) aj (a_ _)))))
   (ai fA)
   bj)
   (ae (c_ (ar 0) (ar 1) rfl)
   (ae (c_ (ar 0) (ar 2) rfl)
   (ai (c_ (ar 0) (ar 3) rfl)))))),?_⟩
  ext;refine⟨az ⋯,λp R=>?_⟩;have m1:aD H (aE H p (.lst [V.str (tx n)])):=ao R;have J:aE H p (.lst [V.str (tx n)]) p=some (.lst [V.str (tx n)]):=af;generalize aE H p (.lst [V.str (tx n)])=H1 at m1 J ⊢;refine⟨_,J,_,m1 _ _ S,by rw[am];exact az (by simp;omega),λm y=>?_⟩;have B:[V.str (tx n)]++au b=au (n::b):=rfl;rw[B];have I:aD H1 (aE H1 m (.lst (au (n::b)))):=ao y;have o:aE H1 m (.lst (au (n::b))) m=some (.lst (au (n::b))):=af;generalize aE H1 m (.lst (au (n::b)))=H2 at I o ⊢;generalize hqs:n::b=qs at j ok o ⊢;have r:=m1.trans I;refine⟨⟨_,aN.of o⟩,bW (xs:=au qs) (λi σ k=>aD H2 k/\∃x,σ=[some (.ref a),some (.str (tx n)),some (.int c),some (.ref l),x]) ⟨λ_ _ e=>e,_,rfl⟩ (λi σ k _ h=>aN.of (h.1 _ _ o)) ?_ ?_⟩
  ·rintro i v σ k u ⟨sm,x,rfl⟩
   have z:i<qs.length:=by have:=(KA.mp u).1;rwa [am]at this
   rw[br z]at u;cases u;ext;refine⟨_,rfl,j _ (KM z),λH3 q=>⟨_,rfl,?_⟩⟩;rw[q06 (by rw[ok.1 _ (KM z)];decide)];exact sm.trans q
  ·rintro σ k ⟨sm,x,rfl⟩
   have d:=r.trans sm;ext;rw[q06 ⋯,q06 ⋯];have g:=good k d;have l1:(cQ "name" (V.str (tx n)) []).length<=1:=dq _ _ _;have l2:(cQ "cost" (V.int c) (cQ "name" (V.str (tx n)) [])).length<=2:=K' (dq _ _ _) ⋯;have Z:¬ (("name":Str)="cost"):=by decide +kernel
   have Y:¬ (("name":Str)="part_names"):=by decide +kernel
   have U:¬ (("cost":Str)="part_names"):=by decide +kernel
   have e:cQ "part_names" (V.ref l) (cQ "cost" (V.int c) (cQ "name" (V.str (tx n)) []))=[(("name":Str),V.str (tx n)),(("cost":Str),V.int c),(("part_names":Str),V.ref l)]:=by
    simp only[cQ,q06 Z,q06 Y,q06 U]
   refine⟨C,D,[],d _ _ T,G,O,by simp,C,D,_,af,G,M,⋯,C,D,_,af,G,L,⋯,?_⟩;rw[kg,kg,e];exact g
def bp(a:Addr)(H H':Hp):Prop:=∀b o,b≠a->H b=some o->H' b=some o
theorem bp.of(s:aD H H'):bp a H H':=λb o _ e=>s b o e
theorem bp.put(s:bp a H H'):bp a H (aE H' a o):=λb u hb e=>by rw[av hb];exact s b u hb e
theorem bp.then{H2:Hp}(s:bp a H H')(t:aD H' H2):bp a H H2:=λb u hb e=>t b u (s b u hb e)
theorem bp.trans{H2:Hp}(s:bp a H H')(t:bp a H' H2):bp a H H2:=λb u hb e=>t b u hb (s b u hb e)
abbrev Gy:Str:="abcdefghijklmnopqrstuvwxyz"
def iB(r:LA):Bool:=decide (r.length=1)&&jy r Gy
def jN(n:LA)(ps:aL)(c:Int):Prop:=(∀r∈n::ps,di r=true)/\1<=c/\c<=9
abbrev gj:Stmt:=jw 36 0
inductive io(K:W.Frag)(vs:List V)(H:Hp)(Q:VK)(_E:XK):Prop
 |mk (a C dx:Addr) (n sg:LA) (c:Int) (_:vs=[.ref a,.str (tx n),.int c,.str (tx sg)]) (_:H a=some (.ins C dx [])) (_:jF K C) (_:(aJ K C "name"/\aJ K C "cost"/\aJ K C "part_names"/\aJ K C "sign")) (_:n.length<=100000) (_:sg.length<=100000) (_:(jN n [] c/\iB sg=true)) (_:∀(l:Addr) (H':Hp),bp a H H'->H l=none->H' l=some (.lst [])->H' a=some (.ins C dx [("name",.str (tx n)),("cost",.int c),("part_names",.ref l),("sign",.str (tx sg))])->Q .non H')
theorem rO:aI ["self","name","cost","sign"] ["self","name","cost","sign"] (ax gj):=by walk_at "c"
theorem tF{f:Addr}{t3:Tok}(F:dw K "__init__" "CellRule.__init__" gj f fd)(nb:NB mg)(yaj:mg "SMALLS"=some (.str "abcdefghijklmnopqrstuvwxyz" t3))
  (yad:↑dP 1 "only_of" ["text","letters"] g_) (zfa:↑zm 3 "Rule" "__init__" ["self","name","cost","part_names"] (dt K)):↑bC 4 f fd ["self","name","cost","sign"] (io K):=by
 have sc:=rO;walk_at "f"
 ·obtain⟨a,C,d,n,i,c,rfl,u,z,⟨I,G,D,B⟩,J,o,⟨ok,m⟩,good⟩:=h
  refine⟨_,(ae (bg (nj zfa (hr.mono (by decide)) rfl aO (ac (ar 0) (ac (ar 1) (ac (ar 2) (ac (bw ad) ad))))))
   (ae (bX (PW.pt (qR (aQ Eg (aB bi rfl nb.len aX (ac (ar 3) ad)) aj (a_ _)) (pH (gy (fb (q00 yad hr (ac (ar 3) (ac (du (v:=.str "abcdefghijklmnopqrstuvwxyz") rfl yaj ⟨_,rfl⟩) ad))) λ_=>rfl)))))
   (ai fA)
   bj)
   (ai (c_ (ar 0) (ar 3) rfl)))),?_⟩
  ext;refine⟨K5 _,λl k=>?_⟩;have m1:aD H (aE H l (.lst [])):=ao k;have p:aE H l (.lst []) l=some (.lst []):=af;generalize aE H l (.lst [])=H1 at m1 p ⊢;have j:l≠a:=λe=>by rw[e,u]at k;cases k
  refine⟨a,C,d,l,n,c,[],rfl,m1 _ _ u,z,I,G,D,p,by simp,λr hr=>by rw[show r=n by simpa using hr];exact J,ok,λH2 g=>?_⟩;have q:bp a H (aE H2 a (.ins C d [("name",.str (tx n)),("cost",.int c),("part_names",.ref l)])):=(bp.of (m1.trans g)).put;have y:aE H2 a (.ins C d [("name",.str (tx n)),("cost",.int c),("part_names",.ref l)]) a=some (.ins C d [("name",.str (tx n)),("cost",.int c),("part_names",.ref l)]):=af;have x:aE H2 a (.ins C d [("name",.str (tx n)),("cost",.int c),("part_names",.ref l)]) l=some (.lst []):=by rw[av j];exact g _ _ p
  generalize aE H2 a (.ins C d [("name",.str (tx n)),("cost",.int c),("part_names",.ref l)])=H3 at q y x ⊢
  try dsimp only
  obtain⟨h1,L⟩:i.length=1/\jy i Gy=true:=by
   have h:=m;unfold iB at h;rw[q0O,q0b]at h;exact h
  refine⟨by rw[aC];exact az ⋯,?_⟩;rw[aC,q06 (λh=>h ⋯)];refine⟨i,_,rfl,o,λH4 b=>⟨_,rfl,?_⟩⟩;rw[q06 (by rw[L];decide)];have R:¬ (("name":Str)="sign"):=by decide +kernel
  have O:¬ (("cost":Str)="sign"):=by decide +kernel
  have M:¬ (("part_names":Str)="sign"):=by decide +kernel
  have e:cQ "sign" (V.str (tx i)) [(("name":Str),V.str (tx n)),(("cost":Str),V.int c),(("part_names":Str),V.ref l)]=[(("name":Str),V.str (tx n)),(("cost":Str),V.int c),(("part_names":Str),V.ref l),(("sign":Str),V.str (tx i))]:=by
   simp only[cQ,q06 R,q06 O,q06 M]
  refine⟨C,d,_,b _ _ y,z,B,by simp,?_⟩;rw[e];exact good l _ (q.then b).put k (by rw[av j];exact b _ _ x) af
inductive dv(K:W.Frag)(vs:List V)(H:Hp)(Q:VK)(_E:XK):Prop
 |mk (a C dx:Addr) (n o1 o2:LA) (c:Int) (_:vs=[.ref a,.str (tx n),.int c,.str (tx o1),.str (tx o2)]) (_:H a=some (.ins C dx [])) (_:jF K C) (_:(aJ K C "name"/\aJ K C "cost"/\aJ K C "part_names"/\aJ K C "one"/\aJ K C "other")) (_:n.length<=100000) (_:o1.length<=100000) (_:o2.length<=100000) (_:jN n [o1,o2] c) (_:∀(l:Addr) (H':Hp),bp a H H'->H l=none->H' l=some (.lst (au [o1,o2]))->H' a=some (.ins C dx [("name",.str (tx n)),("cost",.int c),("part_names",.ref l),("one",.str (tx o1)),("other",.str (tx o2))])->Q .non H')
theorem uW{c:Int}:cQ "other" (V.str (tx o2)) (cQ "one" (V.str (tx o1)) [(("name":Str),V.str (tx n)),(("cost":Str),V.int c),(("part_names":Str),V.ref l)])=[(("name":Str),V.str (tx n)),(("cost":Str),V.int c),(("part_names":Str),V.ref l),(("one":Str),V.str (tx o1)),(("other":Str),V.str (tx o2))]:=by
 have j:¬ (("name":Str)="one"):=by decide +kernel
 have i:¬ (("cost":Str)="one"):=by decide +kernel
 have g:¬ (("part_names":Str)="one"):=by decide +kernel
 have e:¬ (("name":Str)="other"):=by decide +kernel
 have d:¬ (("cost":Str)="other"):=by decide +kernel
 have b:¬ (("part_names":Str)="other"):=by decide +kernel
 have a:¬ (("one":Str)="other"):=by decide +kernel
 simp only[cQ,q06 j,q06 i,q06 g,q06 e,q06 d,q06 b,q06 a]
abbrev eQ:Stmt:=jw 37 0
theorem nw:aI ["self","name","cost","one","other"] ["self","name","cost","one","other"] (ax eQ):=by walk_at "c"
theorem nO{f:Addr}(F:dw K "__init__" "BesideRule.__init__" eQ f fd)(nb:NB mg)
  (zfa:↑zm 3 "Rule" "__init__" ["self","name","cost","part_names"] (dt K)):↑bC 4 f fd ["self","name","cost","one","other"] (dv K):=by
 have sc:=nw;walk_at "f"
 ·obtain⟨a,C,b,n,g,d,c,rfl,v,q,⟨I,G,D,B,z⟩,J,o,m,ok,good⟩:=h
  refine⟨_,(ae (bg (nj zfa (hr.mono (by decide)) rfl aO (ac (ar 0) (ac (ar 1) (ac (ar 2) (ac (bw (ac (ar 3) (ac (ar 4) ad))) ad))))))
   (ae (c_ (ar 0) (ar 3) rfl)
   (ai (c_ (ar 0) (ar 4) rfl)))),?_⟩
  ext;refine⟨az ⋯,λl k=>?_⟩;have m1:aD H (aE H l (.lst [V.str (tx g),V.str (tx d)])):=ao k;have p:aE H l (.lst [V.str (tx g),V.str (tx d)]) l=some (.lst (au [g,d])):=af;generalize aE H l (.lst [V.str (tx g),V.str (tx d)])=H1 at m1 p ⊢;have j:l≠a:=λe=>by rw[e,v]at k;cases k
  refine⟨a,C,b,l,n,c,[g,d],rfl,m1 _ _ v,q,I,G,D,p,by simp,λr hr=>?_,ok,λH2 i=>?_⟩
  ·have L:r=n\/r=g\/r=d:=by simpa using hr
   rcases L with rfl | rfl | rfl
   ·exact J
   ·exact o
   ·exact m
  ·have u:bp a H (aE H2 a a⁻¹):=(bp.of (m1.trans i)).put
   have y:aE H2 a a⁻¹ a=some a⁻¹:=af;have x:aE H2 a a⁻¹ l=some (.lst (au [g,d])):=by rw[av j];exact i _ _ p
   generalize aE H2 a a⁻¹=H3 at u y x ⊢
   try dsimp only
   refine⟨C,b,_,y,q,B,by simp,C,b,_,af,q,z,?_,?_⟩
   ·exact Lk (dq _ _ _) (by simp)
   ·rw[kg,uW]
    exact good l _ u.put k (by rw[av j];exact x) af
abbrev ft:Stmt:=jw 38 0
theorem pK:aI ["self","name","cost","one","other"] ["self","name","cost","one","other"] (ax ft):=by walk_at "c"
theorem qc{f:Addr}(F:dw K "__init__" "AboveRule.__init__" ft f fd)(nb:NB mg)
  (zfa:↑zm 3 "Rule" "__init__" ["self","name","cost","part_names"] (dt K)):↑bC 4 f fd ["self","name","cost","one","other"] (dv K):=by
 have sc:=pK;walk_at "f"
 ·obtain⟨a,C,b,n,g,d,c,rfl,v,q,⟨I,G,D,B,z⟩,J,o,m,ok,good⟩:=h
  refine⟨_,(ae (bg (nj zfa (hr.mono (by decide)) rfl aO (ac (ar 0) (ac (ar 1) (ac (ar 2) (ac (bw (ac (ar 3) (ac (ar 4) ad))) ad))))))
   (ae (c_ (ar 0) (ar 3) rfl)
   (ai (c_ (ar 0) (ar 4) rfl)))),?_⟩
  ext;refine⟨az ⋯,λl k=>?_⟩;have m1:aD H (aE H l (.lst [V.str (tx g),V.str (tx d)])):=ao k;have p:aE H l (.lst [V.str (tx g),V.str (tx d)]) l=some (.lst (au [g,d])):=af;generalize aE H l (.lst [V.str (tx g),V.str (tx d)])=H1 at m1 p ⊢;have j:l≠a:=λe=>by rw[e,v]at k;cases k
  refine⟨a,C,b,l,n,c,[g,d],rfl,m1 _ _ v,q,I,G,D,p,by simp,λr hr=>?_,ok,λH2 i=>?_⟩
  ·have L:r=n\/r=g\/r=d:=by simpa using hr
   rcases L with rfl | rfl | rfl
   ·exact J
   ·exact o
   ·exact m
  ·have u:bp a H (aE H2 a a⁻¹):=(bp.of (m1.trans i)).put
   have y:aE H2 a a⁻¹ a=some a⁻¹:=af;have x:aE H2 a a⁻¹ l=some (.lst (au [g,d])):=by rw[av j];exact i _ _ p
   generalize aE H2 a a⁻¹=H3 at u y x ⊢
   try dsimp only
   refine⟨C,b,_,y,q,B,by simp,C,b,_,af,q,z,?_,?_⟩
   ·exact Lk (dq _ _ _) (by simp)
   ·rw[kg,uW]
    exact good l _ u.put k (by rw[av j];exact x) af
inductive g7(K:W.Frag)(vs:List V)(H:Hp)(Q:VK)(_E:XK):Prop
 |mk (a C dx:Addr) (n o1:LA) (c t:Int) (_:vs=[.ref a,.str (tx n),.int c,.str (tx o1),.int t]) (_:H a=some (.ins C dx [])) (_:jF K C) (_:(aJ K C "name"/\aJ K C "cost"/\aJ K C "part_names"/\aJ K C "part"/\aJ K C "turning")) (_:n.length<=100000) (_:o1.length<=100000) (_:(jN n [o1] c/\0<=t/\t<=7)) (_:∀(l:Addr) (H':Hp),bp a H H'->H l=none->H' l=some (.lst (au [o1]))->H' a=some (.ins C dx [("name",.str (tx n)),("cost",.int c),("part_names",.ref l),("part",.str (tx o1)),("turning",.int t)])->Q .non H')
theorem A4{c t:Int}:cQ "turning" (V.int t) (cQ "part" (V.str (tx o1)) [(("name":Str),V.str (tx n)),(("cost":Str),V.int c),(("part_names":Str),V.ref l)])=[(("name":Str),V.str (tx n)),(("cost":Str),V.int c),(("part_names":Str),V.ref l),(("part":Str),V.str (tx o1)),(("turning":Str),V.int t)]:=by
 have j:¬ (("name":Str)="part"):=by decide +kernel
 have i:¬ (("cost":Str)="part"):=by decide +kernel
 have g:¬ (("part_names":Str)="part"):=by decide +kernel
 have e:¬ (("name":Str)="turning"):=by decide +kernel
 have d:¬ (("cost":Str)="turning"):=by decide +kernel
 have b:¬ (("part_names":Str)="turning"):=by decide +kernel
 have a:¬ (("part":Str)="turning"):=by decide +kernel
 simp only[cQ,q06 j,q06 i,q06 g,q06 e,q06 d,q06 b,q06 a]
abbrev gb:Stmt:=jw 39 0
theorem sw:aI ["self","name","cost","part","turning"] ["self","name","cost","part","turning"] (ax gb):=by walk_at "c"
theorem tH{f:Addr}(F:dw K "__init__" "TurnRule.__init__" gb f fd)(nb:NB mg)
  (zfa:↑zm 3 "Rule" "__init__" ["self","name","cost","part_names"] (dt K)):↑bC 4 f fd ["self","name","cost","part","turning"] (g7 K):=by
 have sc:=sw;walk_at "f"
 ·obtain⟨a,C,b,n,d,c,t,rfl,q,o,⟨D,B,z,y,x⟩,G,k,⟨ok,t0,t7⟩,good⟩:=h
  refine⟨_,(ae (bg (nj zfa (hr.mono (by decide)) rfl aO (ac (ar 0) (ac (ar 1) (ac (ar 2) (ac (bw (ac (ar 3) ad)) ad))))))
   (ae (bX (PW.pt (qR (aQ (bE.m0 qQ) (ar 4) aj (a_ _)) (pH (aQ (bE.m0 mj) (ar 4) aj (a_ _)))))
   (ai fA)
   bj)
   (ae (c_ (ar 0) (ar 3) rfl)
   (ai (c_ (ar 0) (ar 4) rfl))))),?_⟩
  ext;refine⟨az ⋯,λl j=>?_⟩;have m1:aD H (aE H l (.lst [V.str (tx d)])):=ao j;have m:aE H l (.lst [V.str (tx d)]) l=some (.lst (au [d])):=af;generalize aE H l (.lst [V.str (tx d)])=H1 at m1 m ⊢;have i:l≠a:=λe=>by rw[e,q]at j;cases j
  refine⟨a,C,b,l,n,c,[d],rfl,m1 _ _ q,o,D,B,z,m,by simp,λr hr=>?_,ok,λH2 g=>?_⟩
  ·have I:r=n\/r=d:=by simpa using hr
   rcases I with rfl | rfl
   ·exact G
   ·exact k
  ·have p:bp a H (aE H2 a a⁻¹):=(bp.of (m1.trans g)).put
   have v:aE H2 a a⁻¹ a=some a⁻¹:=af;have u:aE H2 a a⁻¹ l=some (.lst (au [d])):=by rw[av i];exact g _ _ m
   generalize aE H2 a a⁻¹=H3 at p v u ⊢
   try dsimp only
   rw[q06 ⋯,q06 ⋯];refine⟨C,b,_,v,o,y,by simp,C,b,_,af,o,x,?_,?_⟩
   ·exact Lk (dq _ _ _) (by simp)
   ·rw[kg,A4]
    exact good l _ p.put j (by rw[av i];exact u) af
abbrev fj:Stmt:=jw 35 1
inductive cP(K:W.Frag)(vs:List V)(H:Hp)(Q:VK)(_E:XK):Prop
 |mk (a C dx l:Addr) (fs:List (Str×V)) (ps:aL) (_:vs=[.ref a]) (_:H a=some (.ins C dx fs)) (_:jF K C) (_:aJ K C "part_names") (_:fs.lookup ("part_names":Str)=some (V.ref l)) (_:H l=some (.lst (au ps))) (_:gL H ps Q)
theorem pU:aI ["self"] ["self"] (ax fj):=by walk_at "c"
theorem eJ{f:Addr}(F:dw K "parts" "Rule.parts" fj f fd)(nb:NB mg):↑bC 1 f fd ["self"] (cP K):=by
 have sc:=pU;walk_at "f"
 ·obtain⟨a,C,j,l,fs,ps,rfl,i,k,c,d,g,q⟩:=h
  refine⟨_,(ai (aP (cV cN rfl nb.list eF (ac (cK (ar 0) rfl) ad)))),?_⟩;ext;refine⟨C,j,fs,i,k,c,V.ref l,d,l,rfl,_,.inl (aN.of g),λe b=>q e _ b af (ao b)⟩
abbrev Gd(n:LA)(c:Int)(l:Addr)(sg:LA):List (Str×V):=[("name",.str (tx n)),("cost",.int c),("part_names",.ref l),("sign",.str (tx sg))]
abbrev Ed(n:LA)(c:Int)(l:Addr)(o1 o2:LA):List (Str×V):=[("name",.str (tx n)),("cost",.int c),("part_names",.ref l),("one",.str (tx o1)),("other",.str (tx o2))]
abbrev DZ(n:LA)(c:Int)(l:Addr)(o1:LA)(t:Int):List (Str×V):=[("name",.str (tx n)),("cost",.int c),("part_names",.ref l),("part",.str (tx o1)),("turning",.int t)]
theorem i5(h:di r=true):1<=r.length/\r.length<=4:=by
 unfold di at h;rw[q0O,q0O,q0b,q0b]at h;exact h.1
theorem zg(h:iB r=true):r.length=1:=by
 unfold iB at h;rw[q0O,q0b]at h;exact h.1
theorem aq{a b:TS}{D:fF}{σ:St}(h:∀N:St->Hp->Prop,(∀σ2 H2,b D σ2 H2->N σ2 H2)->a {D with nx:=N} σ H):yx a b D σ H:=h (b D) λ_ _ z=>z
abbrev lD:Stmt:=fS 57
inductive ot(vs:List V)(H:Hp)(Q:VK)(_E:XK):Prop
 |mk (i:Int) (_:vs=[.int i]) (_:Q (.bl true) H)
theorem v5:aI ["_law_x"] ["_law_x"] (ax lD):=by walk_at "c"
theorem xj{f:Addr}(F:dw K "_law_whole" "_law_whole" lD f fd)(nb:NB mg):↑bC 1 f fd ["_law_x"] ot:=by
 have sc:=v5;walk_at "f"
 ·obtain⟨i,rfl,q⟩:=h
  refine⟨_,(ai (aP (nv (aB b_ rfl nb.isinstance cn (ac (ar 0) (ac (jk (v:=.ty "int") rfl nb.int BC rfl) ad))) (tD (EX (aB b_ rfl nb.isinstance cn (ac (ar 0) (ac (jk (v:=.ty "bool") rfl nb.bool DD rfl) ad)))))))),?_⟩;ext;refine⟨_,jm.int i,_,iZ K _,?_⟩;ext;refine⟨_,jm.int i,_,rX K,?_⟩;exact q
structure RV where
 n:List Nat
 c:Int
 o1:List Nat
 o2:List Nat
 sg:List Nat
 t:Int
abbrev Yaa:=List (Nat×RV)
structure RC where
 rr:Addr
 cc:Addr
 cb:Addr
 ca:Addr
 ct:Addr
def RC.at(R:RC)(k:Nat):Addr:=match k with | 0=>R.cc | 1=>R.cb | 2=>R.ca | _=>R.ct
def rU(k:Nat)(l:Addr)(v:RV):List (Str×V):=match k with | 0=>Gd v.n v.c l v.sg | 1=>Ed v.n v.c l v.o1 v.o2 | 2=>Ed v.n v.c l v.o1 v.o2 | _=>DZ v.n v.c l v.o1 v.t
def cC(k:Nat)(v:RV):aL:=match k with | 0=>[] | 1=>[v.o1,v.o2] | 2=>[v.o1,v.o2] | _=>[v.o1]
def Iz(k:Nat)(v:RV):Prop:=match k with | 0=>jN v.n [] v.c/\iB v.sg=true | 1=>jN v.n [v.o1,v.o2] v.c | 2=>jN v.n [v.o1,v.o2] v.c | _=>jN v.n [v.o1] v.c/\0<=v.t/\v.t<=7
structure RV.small(v:RV):Prop where
 n:v.n.length<=1000
 o1:v.o1.length<=1000
 o2:v.o2.length<=1000
 sg:v.sg.length<=1000
structure RV.good(v:RV):Prop where
 n:di v.n=true
 c1:1<=v.c
 c9:v.c<=9
 o1:di v.o1=true
 o2:di v.o2=true
 sg:iB v.sg=true
 t0:0<=v.t
 t7:v.t<=7
theorem RV.good.small{v:RV}(g:v.good):v.small:=⟨by have:=i5 g.n;omega,by have:=i5 g.o1;omega,by have:=i5 g.o2;omega,by have:=zg g.sg;omega⟩
theorem RV.good.ok{v:RV}(g:v.good):∀k,Iz k v
 |0=>⟨⟨λr hr=>by rw[show r=v.n by simpa using hr];exact g.n,g.c1,g.c9⟩,g.sg⟩
 |1=>⟨λr hr=>by rcases(show r=v.n\/r=v.o1\/r=v.o2 by simpa using hr) with rfl | rfl | rfl<;>first | exact g.n | exact g.o1 | exact g.o2,g.c1,g.c9⟩
 |2=>⟨λr hr=>by rcases(show r=v.n\/r=v.o1\/r=v.o2 by simpa using hr) with rfl | rfl | rfl<;>first | exact g.n | exact g.o1 | exact g.o2,g.c1,g.c9⟩
 |_+3=>⟨⟨λr hr=>by rcases(show r=v.n\/r=v.o1 by simpa using hr) with rfl | rfl<;>first | exact g.n | exact g.o1,g.c1,g.c9⟩,g.t0,g.t7⟩
def gn(R:RC)(H:Hp)(k:Nat)(a:Addr)(v:RV):Prop:=∃dx l,H a=some (.ins (R.at k) dx (rU k l v))/\H l=some (.lst (au (cC k v)))
theorem gn.up(r:gn R H k a v)(s:aD H H'):gn R H' k a v:=by
 obtain⟨b,l,h1,h2⟩:=r;exact⟨b,l,s _ _ h1,s _ _ h2⟩
structure lx(K:W.Frag)(R:RC):Prop where
 i0:jl K R.cc
 i1:jl K R.cb
 i2:jl K R.ca
 i3:jl K R.ct
 a0:aJ K R.cc "name"/\aJ K R.cc "cost"/\aJ K R.cc "part_names"/\aJ K R.cc "sign"
 a1:aJ K R.cb "name"/\aJ K R.cb "cost"/\aJ K R.cb "part_names"/\aJ K R.cb "one"/\aJ K R.cb "other"
 a2:aJ K R.ca "name"/\aJ K R.ca "cost"/\aJ K R.ca "part_names"/\aJ K R.ca "one"/\aJ K R.ca "other"
 a3:aJ K R.ct "name"/\aJ K R.ct "cost"/\aJ K R.ct "part_names"/\aJ K R.ct "part"/\aJ K R.ct "turning"
 r0:W.kitOne K (.ref R.cc) (.ref R.rr)=some true
 r1:W.kitOne K (.ref R.cb) (.ref R.rr)=some true
 r2:W.kitOne K (.ref R.ca) (.ref R.rr)=some true
 r3:W.kitOne K (.ref R.ct) (.ref R.rr)=some true
 s0:W.kitOne K (.ref R.cc) (.ref R.cc)=some true
 s1:W.kitOne K (.ref R.cb) (.ref R.cb)=some true
 s2:W.kitOne K (.ref R.ca) (.ref R.ca)=some true
 s3:W.kitOne K (.ref R.ct) (.ref R.ct)=some true
theorem lx.icls(rk:lx K R):∀k,jl K (R.at k)
 |0=>rk.i0
 |1=>rk.i1
 |2=>rk.i2
 |_+3=>rk.i3
theorem lx.name(rk:lx K R):∀k,aJ K (R.at k) "name"/\aJ K (R.at k) "cost"/\aJ K (R.at k) "part_names"
 |0=>⟨rk.a0.1,rk.a0.2.1,rk.a0.2.2.1⟩
 |1=>⟨rk.a1.1,rk.a1.2.1,rk.a1.2.2.1⟩
 |2=>⟨rk.a2.1,rk.a2.2.1,rk.a2.2.2.1⟩
 |_+3=>⟨rk.a3.1,rk.a3.2.1,rk.a3.2.2.1⟩
theorem ja(l:Addr)(v:RV):∀k,(rU k l v).lookup ("name":Str)=some (V.str (tx v.n))/\(rU k l v).lookup ("cost":Str)=some (V.int v.c)/\(rU k l v).lookup ("part_names":Str)=some (V.ref l)/\(rU k l v).lookup ("parts":Str)=none/\(rU k l v).lookup ("told":Str)=none
 |0=>⟨rfl,rfl,rfl,rfl,rfl⟩
 |1=>⟨rfl,rfl,rfl,rfl,rfl⟩
 |2=>⟨rfl,rfl,rfl,rfl,rfl⟩
 |_+3=>⟨rfl,rfl,rfl,rfl,rfl⟩
theorem je{H1 H2:Hp}(hx:H1 x=none)(hd:H1 dx=none)(s:bp x (aE (aE H1 dx o) x o') H2):aD H1 H2:=
 λb u e=>s b u (aK e hx) (by rw[av (aK e hx),av (aK e hd)];exact e)
theorem D2{CX:j6}(h0:∃ps,jp P w K mg base CX k C0 m ps s0)(h1:∃ps,jp P w K mg base CX k C1 m ps s1)(h2:∃ps,jp P w K mg base CX k C2 m ps s2)(h3:∃ps,jp P w K mg base CX k C3 m ps s3) :
  v4 P w K mg base CX k m [(C0,s0),(C1,s1),(C2,s2),(C3,s3)]:=⟨λo ho=>by
 simp only[KU,List.not_mem_nil,or_false]at ho;rcases ho with rfl | rfl | rfl | rfl
 ·exact h0
 ·exact h1
 ·exact h2
 ·exact h3⟩
def pi(K:W.Frag)(R:RC):List (Addr×Sp):=[(R.cc,cP K),(R.cb,cP K),(R.ca,cP K),(R.ct,cP K)]
theorem yE{R:RC}{k a}{v:RV}{Q:VK}{E:XK}(rk:lx K R)(r:gn R H k a v)(q:gL H (cC k v) Q) :
  ∃o∈pi K R,∃dx fs,H a=some (.ins o.1 dx fs)/\fs.lookup ("parts":Str)=none/\o.2 [.ref a] H Q E:=by
 obtain⟨dx,l,h1,h2⟩:=r;have c:cP K [.ref a] H Q E:=⟨a,R.at k,dx,l,_,_,rfl,h1,(rk.icls k).cl,(rk.name k).2.2,(ja l v k).2.2.1,h2,q⟩;have b:(R.at k,cP K)∈pi K R:=by
  unfold pi
  match k with
  |0=>simp[RC.at]
  |1=>simp[RC.at]
  |2=>simp[RC.at]
  |_+3=>simp[RC.at]
 exact⟨_,b,dx,_,h1,(ja l v k).2.2.2.1,c⟩
abbrev iN:Stmt:=fS 46
abbrev ki:Str:="abcdefghijklmnopqrstuvwxyz"
def hU(r:LA):Bool:=decide (1<=r.length)&&decide (r.length<=4)&&jy r ki&&decide ((met (cT (tx r))).length=r.length)
inductive kB(vs:List V)(H:Hp)(Q:VK)(_E:XK):Prop
 |mk (r:LA) (_:vs=[.str (tx r)]) (_:r.length<=1000) (_:∀H',aD H H'->Q (.bl (hU r)) H')
theorem sW:aI ["text"] ["text"] (ax iN):=by walk_at "c"
theorem tW{f:Addr}{t1 t2:Tok}(F:dw K "are_signs" "are_signs" iN f fd)(nb:NB mg)(yam:mg "MOST_SIGNS"=some (.int 4 t1))(yaj:mg "SMALLS"=some (.str "abcdefghijklmnopqrstuvwxyz" t2))(yad:↑dP 1 "only_of" ["text","letters"] g_):↑bC 2 f fd ["text"] kB:=by
 have sc:=sW;walk_at "f"
 ·obtain⟨r,rfl,hr',q⟩:=h
  refine⟨_,(ai (aP (nv (uU (bE.m0 rp) (bE.m0 rp) aj (aB bi rfl nb.len aX (ac (ar 0) ad)) (du (v:=.int 4) rfl yam ⟨_,rfl⟩)) (nv (q00 yad hr (ac (ar 0) (ac (du (v:=.str "abcdefghijklmnopqrstuvwxyz") rfl yaj ⟨_,rfl⟩) ad))) (tD (mW dz (yW rfl (ar 0) rfl nb.len rfl nb.set) (aB bi rfl nb.len aX (ac (ar 0) ad)) (a_ _))))))),?_⟩;ext;refine⟨by rw[aC];exact az ⋯,?_⟩;rw[aC];unfold hU at q
  by_cases h1:1<=r.length
  ·rw[q07 ⋯]
   by_cases h2:r.length<=4
   ·rw[q07 ⋯]
    refine⟨r,_,rfl,⋯,λb sm=>⟨_,rfl,?_⟩⟩;have z:=q b sm;rw[q09 h1,q09 h2]at z;cases a:jy r ki with
    |false=>
     rw[a]at z;rw[q06 (by simp)];exact z
    |true=>
     rw[a]at z;rw[q07 rfl];refine⟨by rw[Ha];unfold scanBound;omega,by exact az ⋯,?_⟩;have e:decide (((met (cT (tx r))).length:Int)=(r.length:Int))=decide ((met (cT (tx r))).length=r.length):=by
      apply decide_eq_decide.mpr
      constructor<;>intro h<;>omega
     rw[e];exact z
   ·rw[q06 ⋯]
    have z:=q H (λ_ _ e=>e);rw[q09 h1,q08 h2]at z;exact z
  ·rw[q06 ⋯]
   have z:=q H (λ_ _ e=>e);rw[q08 h1]at z;exact z
theorem Ah{α:Type}{l:List α}{i:Nat}{x:α}(h:l[i]?=some x):l.drop i=x::l.drop (i+1):=by
 obtain⟨a,e⟩:=KA.mp h;rw[q0T a,e]
structure AF(K:W.Frag)(R:RC):Prop where
 kit:∀i j,i<4->j<4->W.kitOne K (.ref (R.at i)) (.ref (R.at j))=some (decide (i=j))
abbrev Go(z x:Str):Bool:=!(Builtin.Str.occurrences z x 0 z.length 1).isEmpty
def ge(sg:Str):Yaa->Nat->Option Nat
 | [],_=>none
 |r::rs,j=>if r.1=0/\Go sg (tx r.2.sg)=false then some j else ge sg rs (j+1)
def gX(sg st:LA)(rs:Yaa):Option (Str×List Int):=
 if hU sg=false then some ("signs",[]) else if di st=false then some ("start",[]) else if 24<rs.length then some ("rules",[(rs.length:Int)]) else
  match ge (tx sg) rs 0 with
  |some k=>some ("sign",[(k:Int)])
  |none=>none
abbrev e_:Stmt:=fS 45
def bN(R:RC)(H:Hp)(as:LD)(rs:Yaa):Prop:=as.length=rs.length/\∀(i:Nat) a r,as[i]?=some a->rs[i]?=some r->gn R H r.1 a r.2
theorem bN.up(h:bN R H as rs)(s:aD H H'):bN R H' as rs:=⟨h.1,λi a r e1 e2=>(h.2 i a r e1 e2).up s⟩
inductive gS(R:RC)(vs:List V)(H:Hp)(Q:VK)(_E:XK):Prop
 |mk (sg st:LA) (a:Addr) (as:LD) (rs:Yaa) (_:vs=[.str (tx sg),.str (tx st),.ref a]) (_:sg.length<=1000) (_:st.length<=1000) (_:H a=some (.lst (as.map V.ref))) (_:bN R H as rs) (_:(∀r∈rs,r.1<4)) (_:rs.length<=100) (_:gX sg st rs=none) (_:∀H',aD H H'->Q .non H')
theorem lB:aI ["signs","start","rules","k","rule"] ["signs","start","rules"] (ax e_):=by walk_at "c"
theorem lQ{f:Addr}{t1:Tok}(F:dw K "check_made_of" "check_made_of" e_ f fd)(nb:NB mg)(rk:lx K R)(rk4:AF K R)(yao:mg "MOST_RULES"=some (.int 24 t1))(zQa:mg "CellRule"=some (.ref R.cc))
  (yaJ:↑dP 2 "are_signs" ["text"] kB) (yaf:↑dP 2 "is_name" ["text"] jY):↑bC 3 f fd ["signs","start","rules"] (gS R):=by
 have sc:=lB;walk_at "f"
 ·obtain⟨sg,G,a,J,g,rfl,S,hst,ha,q,Y,hn,c,good⟩:=h
  refine⟨_,(ae (bX (gy (fb (q00 yaJ hr (ac (ar 0) ad)) λ_=>rfl))
   (ai fA)
   bj)
   (ae (bX (gy (fb (q00 yaf hr (ac (ar 1) ad)) λ_=>rfl))
   (ai fA)
   bj)
   (ae (bX (aQ (bE.m0 mj) (aB aU rfl nb.len aX (ac (ar 2) ad)) (du (v:=.int 24) rfl yao ⟨_,rfl⟩) (a_ _))
   (ai fA)
   bj)
   (ai (aS PassesOwn.never rfl (rB rfl nb.enumerate (ac (ar 2) ad)) (ip (n:=2) rfl (bh (q02 3 sc.nd) (bh (q02 4 sc.nd) dD)))
   (ai (bX (PW.pt (gw (fb (aB b_ rfl nb.isinstance cn (ac (ar 4) (ac (du (v:=.ref _) rfl zQa rfl) ad))) λ_=>rfl) (fu (aQ sL (cK (ar 4) rfl) (ar 0) (by with_unfolding_all rfl)))))
   (ai fA)
   bj))))))),?_⟩
  symm;refine⟨sg,rfl,S,λH1 O=>⟨_,rfl,?_⟩⟩;unfold gX at c;have e1:hU sg=true:=by
   cases e:hU sg with
   |true=>rfl
   |false=>rw[q07 e]at c;cases c
  rw[q06 (by rw[e1];decide)]at c ⊢;refine h1 _ _ ?_;clear h1;ac_nf;refine⟨G,rfl,⋯,λH2 M=>⟨_,rfl,?_⟩⟩;have l:=O.trans M;have e2:di G=true:=by
   cases e:di G with
   |true=>rfl
   |false=>rw[q07 e]at c;cases c
  rw[q06 (by rw[e2];decide)]at c ⊢;refine h2 _ _ ?_;clear h2;have D:=l _ _ ha;have C:(J.map V.ref).length=g.length:=by rw[KD];exact q.1
  refine aq λN3 h3=>?_;ext;refine⟨_,aN.of D,?_⟩;rw[C];have a1:¬ 24<g.length:=λh=>by rw[q07 h]at c;cases c
  rw[q06 ⋯];rw[q06 a1]at c;refine h3 _ _ ?_;clear h3;ext;refine⟨_,aN.of D,?_⟩;refine qy (xs:=J.map V.ref) (λi σ L=>aD H L/\ge (tx sg) (g.drop i) i=ge (tx sg) g 0/\∃x y,σ=[some (.str (tx sg)),some (.str (tx G)),some (.ref a),x,y]) ⟨l,rfl,_,_,rfl⟩ ?_ ?_ ?_
  ·rintro i σ L _ ⟨sm,_⟩
   exact aN.of (sm _ _ ha)
  ·rintro i x σ H3 T p ⟨sm,Z,x1,y1,rfl⟩ hT
   have B:i<g.length:=by have:=(KA.mp p).1;rw[C]at this;exact this
   obtain⟨d,U,rfl⟩:∃d,J[i]?=some d/\V.ref d=x:=by
    rw[KG]at p;cases e:J[i]? with
    |none=>rw[e]at p;cases p
    |some d=>rw[e]at p;exact⟨d,rfl,q0S p⟩
   have o:g[i]?=some g[i]:=Kz B;have u:=Y _ (KM B);generalize g[i]=r at o u;rw[Ah o]at Z;have j:aD H (aE H3 T (.tup [V.int (i:Int),V.ref d])):=sm.trans (ao hT);have eT:aE H3 T (.tup [V.int (i:Int),V.ref d]) T=some (.tup [V.int (i:Int),V.ref d]):=af;generalize aE H3 T (.tup [V.int (i:Int),V.ref d])=H4 at j eT ⊢;have rr:=(q.2 i d r U o).up j;obtain⟨dx,pl,m,_⟩:=id rr;ext;refine⟨_,dO.of eT,rfl,_,_,rfl,_,_,rfl,rfl,?_⟩;refine⟨_,(rk.icls r.1).ty m,_,rk4.kit r.1 0 u (by decide),?_⟩;have b:(if r.1=0/\Go (tx sg) (tx r.2.sg)=false then some i else ge (tx sg) (g.drop (i+1)) (i+1))=ge (tx sg) g 0:=Z
   by_cases I:r.1=0
   ·rw[q07 (by simp[I])]
    obtain⟨r0,v⟩:=r;have a2:r0=0:=I;subst a2;refine⟨d,rfl,_,_,_,m,rk.i0.cl,rk.a0.2.2.2,_,rfl,_,rfl,?_⟩;have k:Go (tx sg) (tx v.sg)=true:=by
     cases k:Go (tx sg) (tx v.sg) with
     |true=>rfl
     |false=>
      rw[q07 ⟨rfl,k⟩]at b;rw[<- b]at c;cases c
    rw[q06 (by rw[show(!(Builtin.Str.occurrences (tx sg) (tx v.sg) 0 (tx sg).length 1).isEmpty)=true from k];decide)];rw[q06 (λz=>by rw[k]at z;exact q0Q z.2 (by decide))]at b;exact⟨j,b⟩
   ·rw[q06 (by simp[I])]
    rw[q06 (λz=>I z.1)]at b;exact⟨j,b⟩
  ·rintro σ L ⟨sm,Z,x,y,rfl⟩
   ext;exact good L sm
def iu(m:List (Str×List Nat))(z:Str)(i:Nat):List (Str×List Nat):=m.map λq=>if q.1=z then(q.1,q.2++[i]) else q
structure tK(H0:Hp)(p:Addr)(t:NT)(H:Hp):Prop where
 same:aD H0 H
 at_:dm H p t
 fresh:∀x∈t,H0 x.2.1=none
 nodup:((jh t).map (·.1)).Nodup
theorem oW(t:NT):(jh t).length=t.length:=by unfold jh;rw[KD]
theorem pV(m:List (Str×List Nat))(z:Str):(cB m z).length<=m.length+1:=by
 unfold cB;split
 ·omega
 ·rw[K3];simp
theorem il(m:List (Str×List Nat))(z:Str)(i:Nat):(iu m z i).map (·.1)=m.map (·.1):=by
 unfold iu;rw[KS]
 apply q0K;intro q _;simp only[Function.comp]
 split<;>rfl
theorem zX{m:List (Str×List Nat)}{j i:Nat}{q:Str×List Nat}(nd:(m.map (·.1)).Nodup)(hj:m[j]?=some q):m.set j (q.1,q.2++[i])=iu m q.1 i:=by
 unfold iu;apply List.ext_getElem?;intro k;rw[KG,List.getElem?_set];have b:j<m.length:=(KA.mp hj).1
 by_cases e:j=k
 ·subst e
  rw[q07 rfl,q07 b,hj];simp
 ·rw[q06 e]
  cases c:m[k]? with
  |none=>rfl
  |some y=>
   have a:y.1≠q.1:=by
    intro h;have h1:(m.map (·.1))[j]?=some q.1:=by rw[KG,hj];rfl
    have h2:(m.map (·.1))[k]?=some q.1:=by rw[KG,c];simp[h]
    exact e ((List.getElem?_inj (KA.mp h1).1 nd).mp (h1.trans h2.symm))
   simp[a]
theorem tK.free{H0:Hp}{t:NT}(N:tK H0 p t H){l:Addr}(h:H l=none):H0 l=none:=N.same.free h
theorem mh{te:TE}{σ:St}{H0 H:Hp}{t:NT}{i:Nat}{Q:VK}(hp:H0 p=none)(hv:σ[i]?=some (some (.ref p)))(hte:∀R:VK,R (.str z) H->te σ H R)(N:tK H0 p t H)(hn:t.length<sizeLine)
  (h:∀(H':Hp) (t':NT) (j:Nat) (x:Str×Addr×List Nat),tK H0 p t' H'->t'[j]?=some x->x.1=z->jh t'=cB (jh t) z->t'.length<=t.length+1->(∀a o,a≠p->H a=some o->H' a=some o)->Q (.ref x.2.1) H'):vi (Ci i) te (Dh om) σ H Q:=by
 refine⟨.ref p,hv,p,rfl,.inl ⟨_,.inl N.at_.dict⟩,hte _ ⟨K5 _,λl k=>?_⟩⟩;have g:=N.free k;refine N.at_.setdef k hn λH' t' j x v u r d n m=>h H' t' j x ⟨λb o e=>m b o (λq=>by rw[q,hp]at e;exact nomatch e) (N.same b o e),v,λy c=>?_,?_⟩ u r d ?_ m
 ·rcases n y c with q | q
  ·exact N.fresh y q
  ·rw[q];exact g
 ·rw[d];exact ku N.nodup
 ·have:=pV (jh t) z
  rw[<- d,oW,oW]at this;exact this
theorem tK.put{H0:Hp}{t:NT}{j k:Nat}{x:Str×Addr×List Nat}(N:tK H0 p t H)(hj:t[j]?=some x) :
  tK H0 p (t.set j (x.1,x.2.1,x.2.2++[k])) (aE H x.2.1 (.lst (vJ (x.2.2++[k]))))/\jh (t.set j (x.1,x.2.1,x.2.2++[k]))=iu (jh t) x.1 k:=by
 have a:=KH hj;have e:jh (t.set j (x.1,x.2.1,x.2.2++[k]))=iu (jh t) x.1 k:=by
  rw[CD];exact zX (q:=(x.1,x.2.2)) N.nodup (by unfold jh;rw[KG,hj];rfl)
 refine⟨⟨bz N.same (N.fresh x a),N.at_.put hj,λy b=>?_,?_⟩,e⟩
 ·rcases List.mem_or_eq_of_mem_set b with q | q
  ·exact N.fresh y q
  ·rw[q];exact N.fresh x a
 ·rw[e,il];exact N.nodup
abbrev dR:Stmt:=fS 47
theorem jK:aI ["start","rules","numbers","k","rule","part"] ["start","rules"] (ax dR):=by walk_at "c"
def eO(m:List (Str×List Nat))(i:Nat)(r:Nat×RV):List (Str×List Nat):=((cC r.1 r.2).map tx).foldl cB (iu (cB m (tx r.2.n)) (tx r.2.n) i)
def fN:Nat->Yaa->List (Str×List Nat)->List (Str×List Nat)
 |_,[],m=>m
 |i,r::rs,m=>fN (i+1) rs (eO m i r)
theorem jP{m:List (Str×List Nat)}{z:Str}{n:Nat}(h:∀q∈m,q.2.length<=n):∀q∈cB m z,q.2.length<=n:=by
 unfold cB;split
 ·exact h
 ·intro q a
  rcases KR.mp a with z1 | z1
  ·exact h q z1
  ·rw[KF.mp z1];exact K5 _
theorem me:∀{zs:LI} {m:List (Str×List Nat)} {n:Nat},(∀q∈m,q.2.length<=n)->∀q∈zs.foldl cB m,q.2.length<=n
 | [],_,_,h=>h
 |z::zs,_,_,h=>me (zs:=zs) (jP h)
theorem vz{m:List (Str×List Nat)}{i n:Nat}{r:Nat×RV}(h:∀q∈m,q.2.length<=n):∀q∈eO m i r,q.2.length<=n+1:=by
 unfold eO;refine me λq b=>?_;unfold iu at b;obtain⟨c,a,rfl⟩:=Lm.mp b;have:=jP h c a
 split
 ·rw[K3];simp;exact this
 ·omega
theorem nY:∀{rs:Yaa} {i n:Nat} {m:List (Str×List Nat)},(∀q∈m,q.2.length<=n)->∀q∈fN i rs m,q.2.length<=n+rs.length
 | [],_,_,_,h=>h
 |r::rs,i,n,m,h=>λq hq=>by
  have:=nY (rs:=rs) (i:=i+1) (vz (i:=i) (r:=r) h) q hq;rw[KP];omega
theorem f_:∀{rs:Yaa} {i:Nat} {m:List (Str×List Nat)} {r:Nat×RV},fN i (rs++[r]) m=eO (fN i rs m) (i+rs.length) r
 | [],i,m,r=>rfl
 |r0::rs,i,m,r=>by
  show fN (i+1) (rs++[r]) (eO m i r0)=eO (fN (i+1) rs (eO m i r0)) (i+(rs.length+1)) r;rw[f_,show i+1+rs.length=i+(rs.length+1) by omega]
theorem v8(k:Nat)(v:RV):(cC k v).length<=2:=by
 match k with
 |0=>simp[cC]
 |1=>simp[cC]
 |2=>simp[cC]
 |_+3=>simp[cC]
def cr(z:Str)(rs:Yaa):List (Str×List Nat):=fN 0 rs [(z,[])]
inductive fE(K:W.Frag)(R:RC)(vs:List V)(H:Hp)(Q:VK)(_E:XK):Prop
 |mk (z:Str) (a:Addr) (as:LD) (rs:Yaa) (_:vs=[.str z,.ref a]) (_:H a=some (.lst (as.map V.ref))) (_:bN R H as rs) (_:rs.length<=100) (_:∀p H' t,H p=none->dm H' p t->jh t=cr z rs->(∀x∈t,H x.2.1=none)->aD H H'->Q (.ref p) H')
theorem j3{f:Addr}(F:dw K "numbers_by_name" "numbers_by_name" dR f fd)(nb:NB mg)(rk:lx K R)(yaK:↑v4 1 "parts" (pi K R)):↑bC 2 f fd ["start","rules"] (fE K R):=by
 have sc:=jK;walk_at "f"
 ·obtain⟨z,a,as,rs,rfl,ha,U,hn,q⟩:=h
  refine⟨_,(ae (q01 2 sc.nd (Dr (An (pv 0) (bw ad) DI) rfl rfl (by simp) (by decide)))
   (ae (aS PassesOwn.never rfl (rB rfl nb.enumerate (ac (pv 1) ad)) (ip (n:=2) rfl (bh (q02 3 sc.nd) (bh (q02 4 sc.nd) dD)))
   (ae (bg (q03 (oo (pv 2) (cK (pv 4) rfl) (bw ad) ⟨rfl,rfl,rfl,rfl⟩) (ac (pv 3) ad)))
   (ai (aS PassesOwn.never rfl (bG (BZ yaK (hr.mono (by decide)) aO (pv 4))) (q02 5 sc.nd)
   (ai (bg (oo (pv 2) (pv 5) (bw ad) ⟨rfl,rfl,rfl,rfl⟩)))))))
   (ai (aP (pv 2))))),?_⟩
  ext;intro p hp;refine⟨K5 _,λl hl=>?_⟩;have g:l≠p:=λe=>by rw[e,af]at hl;exact nomatch hl
  have a0:H l=none:=by rw[av g]at hl;exact hl
  have a7:a≠p:=λe=>by rw[e,hp]at ha;exact nomatch ha
  have b3:a≠l:=λe=>by rw[e,a0]at ha;exact nomatch ha
  refine⟨by rw[av (Ne.symm g),af],[(.inr z,.ref l)],rfl,by simp,as.map V.ref,aN.of (by rw[av a7,av b3,av a7];exact ha),?_⟩;refine qy (xs:=as.map V.ref) (λi σ B=>aD H B/\∃t,dm B p t/\(∀x∈t,H x.2.1=none)/\((jh t).map (·.1)).Nodup/\jh t=fN 0 (rs.take i) [(z,[])]/\t.length<=1+3*i/\∃x y u,σ=[some (.str z),some (.ref a),some (.ref p),x,y,u]) ?_ ?_ ?_ ?_
  ·refine⟨λb o e=>?_,[(z,l,[])],⟨by rw[af];rfl,λx c=>?_,by simp⟩,λx c=>?_,by simp[jh],rfl,by simp,_,_,_,rfl⟩
   ·have h1:b≠p:=λq=>by rw[q,hp]at e;exact nomatch e
    have h2:b≠l:=λq=>by rw[q,a0]at e;exact nomatch e
    rw[av h1,av h2,av h1];exact e
   ·rw[KF.mp c,av g,af];rfl
   ·rw[KF.mp c];exact a0
  ·rintro i σ B _ ⟨sm,_⟩
   exact aN.of (sm _ _ ha)
  ·rintro i x σ H1 T c ⟨sm,t,N,fr,nd,em,hlen,x1,y1,u1,rfl⟩ hT
   have a3:i<rs.length:=by have:=(KA.mp c).1;rw[KD,U.1]at this;exact this
   obtain⟨d,b0,rfl⟩:∃d,as[i]?=some d/\V.ref d=x:=by
    rw[KG]at c;cases e:as[i]? with
    |none=>rw[e]at c;cases c
    |some d=>rw[e]at c;exact⟨d,rfl,q0S c⟩
   have Y:rs[i]?=some rs[i]:=Kz a3;generalize rs[i]=r at Y;have rr:=U.2 i d r b0 Y;have M:aD H (aE H1 T (.tup [V.int (i:Int),V.ref d])):=sm.trans (ao hT);have gT:∀b o,H1 b=some o->aE H1 T (.tup [V.int (i:Int),V.ref d]) b=some o:=ao hT;have eT:dO K (aE H1 T (.tup [V.int (i:Int),V.ref d])) T [V.int (i:Int),V.ref d]:=dO.of af;have N2:=N.grow gT;generalize aE H1 T (.tup [V.int (i:Int),V.ref d])=H2 at M gT eT N2 ⊢;clear gT N hT sm H1;simp only[Cq,xC,jA,C4];refine⟨_,_,rfl,eT,rfl,_,_,rfl,_,_,rfl,rfl,?_⟩;refine aq λN1 h1=>?_;have a2:=rr.up M;have NI:tK H p t H2:=⟨M,N2,fr,nd⟩;have hz:sizeLine>1000:=aR (by decide);obtain⟨dx,pl,J,_⟩:=id a2;ext;refine mh (z:=tx r.2.n) hp rfl (λS hS=>⟨_,rfl,d,_,dx,_,_,rfl,J,(rk.icls r.1).cl,(rk.name r.1).1,(ja pl r.2 r.1).1,hS⟩) NI ⋯ λH3 t3 j x N3 hj c hm a5 hk=>?_;have O:=N3.at_.list x (KH hj);refine⟨.inl ⟨rfl,_,aN.of O⟩,_,rfl,_,O,?_,h1 _ _ ?_⟩
   ·have h2:(x.1,x.2.2)∈cB (jh t) (tx r.2.n):=by rw[<- hm];exact Lm.mpr ⟨x,KH hj,rfl⟩
    have h3:=jP (nY (rs:=rs.take i) (i:=0) (n:=0) (m:=[(z,[])]) (λq hq=>by rw[KF.mp hq];exact K5 _)) (z:=tx r.2.n) (x.1,x.2.2) (by rw[<- em];exact h2);rw[Lg]at h3;unfold vJ;rw[KD];have h4:x.2.2.length<=100:=by simp at h3;omega
    omega
   clear h1;obtain⟨I,C⟩:=N3.put (k:=i) hj;have a4:(t3.set j (x.1,x.2.1,x.2.2++[i])).length<=t.length+1:=by rw[List.length_set];exact a5
   have C:jh (t3.set j (x.1,x.2.1,x.2.2++[i]))=iu (cB (jh t) (tx r.2.n)) (tx r.2.n) i:=by rw[C,hm,c]
   have eI:vJ (x.2.2++[i])=vJ x.2.2++[V.int (i:Int)]:=by unfold vJ;rw[KQ];rfl
   rw[eI]at I;generalize t3.set j (x.1,x.2.1,x.2.2++[i])=t4 at I C a4;generalize aE H3 x.2.1 (.lst (vJ x.2.2++[V.int (i:Int)]))=H4 at I ⊢;clear hk O hj N3 hm a5 c NI N2 J a2;have a9:=rr.up I.same;have hpk:=v8 r.1 r.2;ext;refine yE rk a9 λlp H5 g a8 a1=>⟨lp,rfl,⟨_,aN.of a8⟩,?_⟩;have b1:lp≠p:=λe=>by rw[e,I.at_.dict]at g;exact nomatch g
   refine bW (xs:=au (cC r.1 r.2)) (λn σ B=>n<=(cC r.1 r.2).length/\∃L,tK H p L B/\jh L=(((cC r.1 r.2).take n).map tx).foldl cB (iu (cB (jh t) (tx r.2.n)) (tx r.2.n) i)/\L.length<=t.length+1+n/\B lp=some (.lst (au (cC r.1 r.2)))/\∃u,σ=[some (.str z),some (.ref a),some (.ref p),some (.int (i:Int)),some (.ref d),u])
    ⟨K5 _,t4,⟨I.same.trans a1,I.at_.grow a1,I.fresh,I.nodup⟩,C,a4,a8,_,rfl⟩ ?_ ?_ ?_
   ·rintro n σ B _ ⟨_,L,_,_,_,G,_⟩
    exact aN.of G
   ·rintro n v σ B hv ⟨hn1,L,N',D,a6,G,u,rfl⟩
    have Z:n<(cC r.1 r.2).length:=by have:=(KA.mp hv).1;rwa [am]at this
    rw[br Z]at hv;cases hv;ext;refine mh (z:=tx (cC r.1 r.2)[n]) hp rfl (λS hS=>⟨_,rfl,hS⟩) N' ⋯ λH6 t6 j x N6 hj c b2 hl6 hk=>?_;refine⟨Z,t6,N6,?_,⋯,hk _ _ b1 G⟩;rw[b2,D,q0E,Kz Z,KQ,List.foldl_append]
    rfl
   ·rintro σ B ⟨_,L,N',D,a6,G,u,rfl⟩
    rw[am,Lf]at D;refine⟨N'.same,L,N'.at_,N'.fresh,N'.nodup,?_,?_,_,_,_,rfl⟩
    ·rw[D,q0E,Y,em]
     show _=fN 0 (rs.take i++[r]) _;rw[f_,Lg,Lv (q0P a3),Nat.zero_add]
     rfl
    ·rw[am]at a6;omega
  ·rintro σ B ⟨sm,t,N,fr,_,em,_,x,y,u,rfl⟩
   ext;refine q p B t hp N ?_ fr sm;rw[em,KD,U.1,Lf];rfl
def oN(sg st:LA)(rs:Yaa):Option (Str×List Int):=
 match gX sg st rs with
 |some y=>some y
 |none=>if 8<(cr (tx st) rs).length then some ("names",[((cr (tx st) rs).length:Int)]) else none
def gv(sg st:LA)(lk pn:Addr):List (Str×V):=[("signs",.str (tx sg)),("start",.str (tx st)),("kept",.ref lk),("numbers",.ref pn)]
def dM(R:RC)(H:Hp)(C dx a:Addr)(sg st:LA)(as:LD)(rs:Yaa):Prop:=
 ∃lk pn t,H a=some (.ins C dx (gv sg st lk pn))/\H lk=some (.lst (as.map V.ref))/\bN R H as rs/\dm H pn t/\jh t=cr (tx st) rs
def tz(R:RC)(H:Hp)(C dx a:Addr)(sg st:LA)(as:LD)(rs:Yaa)(lk pn:Addr)(t:NT):Prop:=
 H a=some (.ins C dx (gv sg st lk pn))/\H lk=some (.lst (as.map V.ref))/\bN R H as rs/\dm H pn t/\jh t=cr (tx st) rs
theorem tz.f{st:LA}{lk pn:Addr}{t:NT}(g:tz R H C dx a sg st as rs lk pn t):dM R H C dx a sg st as rs:=⟨lk,pn,t,g⟩
theorem dM.up{st:LA}(g:dM R H C dx a sg st as rs)(s:aD H H'):dM R H' C dx a sg st as rs:=by
 obtain⟨c,b,t,h1,h2,i,e,d⟩:=g;exact⟨c,b,t,s _ _ h1,s _ _ h2,i.up s,e.grow s,d⟩
theorem C9(k:Nat)(l:Addr)(v:RV):rU k l v≠[]:=λe=>by
 have:=(ja l v k).1;rw[e]at this;exact nomatch this
theorem bN.upX(h:bN R H as rs)(ha:H a=some (.ins C dx []))(s:bp a H H'):bN R H' as rs:=by
 refine⟨h.1,λi b r g c=>?_⟩;obtain⟨d,l,h1,h2⟩:=h.2 i b r g c;refine⟨d,l,s _ _ (λe=>?_) h1,s _ _ (λe=>?_) h2⟩
 ·rw[e,ha]at h1
  have:=q0S h1;exact q0Q (HO.ins.inj this).2.2.symm (C9 _ _ _)
 ·rw[e,ha]at h2;cases h2
abbrev fY:Stmt:=jw 44 0
inductive ia(K:W.Frag)(R:RC)(vs:List V)(H:Hp)(Q:VK)(_E:XK):Prop
 |mk (a C dx l:Addr) (sg st:LA) (as:LD) (rs:Yaa) (_:vs=[.ref a,.str (tx sg),.str (tx st),.ref l]) (_:H a=some (.ins C dx [])) (_:jF K C) (_:(aJ K C "signs"/\aJ K C "start"/\aJ K C "kept"/\aJ K C "numbers")) (_:sg.length<=1000) (_:st.length<=1000) (_:H l=some (.lst (as.map V.ref))) (_:bN R H as rs) (_:(∀r∈rs,r.1<4)) (_:rs.length<=100) (_:oN sg st rs=none) (_:∀H' lk pn t,bp a H H'->tz R H' C dx a sg st as rs lk pn t->H lk=none->H pn=none->(∀x∈t,H x.2.1=none)->Q .non H')
theorem sE:aI ["self","signs","start","rules"] ["self","signs","start","rules"] (ax fY):=by walk_at "c"
theorem sG{f:Addr}{t1:Tok}(F:dw K "__init__" "Grammar.__init__" fY f fd)(nb:NB mg)(yax:mg "MOST_NAMES"=some (.int 8 t1))
  (yaI:↑dP 3 "check_made_of" ["signs","start","rules"] (gS R)) (yaA:↑dP 2 "numbers_by_name" ["start","rules"] (fE K R)) :
  ↑bC 4 f fd ["self","signs","start","rules"] (ia K R):=by
 have sc:=sE;walk_at "f"
 ·obtain⟨a,C,g,l,b,c,q,I,rfl,ha,cl,⟨n1,n2,n3,n4⟩,a6,a5,hl,J,a7,hn,O,good⟩:=h
  refine⟨_,(ae (bg (q00 yaI hr (ac (ar 1) (ac (ar 2) (ac (ar 3) ad)))))
   (ae (c_ (ar 0) (ar 1) rfl)
   (ae (c_ (ar 0) (ar 2) rfl)
   (ae (c_ (ar 0) (cV cN rfl nb.list eF (ac (ar 3) ad)) rfl)
   (ae (c_ (ar 0) (q00 yaA hr (ac (ar 2) (ac (ar 3) ad))) rfl)
   (ai (bX (aQ (bE.m0 mj) (aB zB rfl nb.len aX (ac (cK (ar 0) rfl) ad)) (du (v:=.int 8) rfl yax ⟨_,rfl⟩) (a_ _))
   (ai fA)
   bj))))))),?_⟩
  obtain⟨g0,h8⟩:gX b c I=none/\¬ 8<(cr (tx c) I).length:=by
   unfold oN at O;cases e:gX b c I with
   |some y=>rw[e]at O;cases O
   |none=>
    rw[e]at O;exact⟨rfl,λh=>by simp only[]at O;rw[q07 h]at O;cases O⟩
  symm;refine⟨b,c,l,q,I,rfl,a6,a5,hl,J,a7,hn,g0,λH1 G=>h1 _ _ ?_⟩;clear h1;have a1:=G _ _ ha;have Z:l≠a:=λe=>by rw[e,ha]at hl;cases hl
  ac_nf;refine⟨C,g,_,a1,cl,n1,by simp,h2 _ _ ?_⟩;clear h2;have B:bp a H (aE H1 a (.ins C g [("signs",.str (tx b))])):=(bp.of G).put;have U:aE H1 a (.ins C g [("signs",.str (tx b))]) a=some (.ins C g [("signs",.str (tx b))]):=af;show _;change yx _ _ _ _ (aE H1 a (.ins C g [("signs",.str (tx b))]));generalize aE H1 a (.ins C g [("signs",.str (tx b))])=H2 at B U ⊢;clear G a1;refine aq λN3 h3=>?_;ext;have d1:¬ (("signs":Str)="start"):=by decide +kernel
  have e3:cQ "start" (V.str (tx c)) [(("signs":Str),V.str (tx b))]=[(("signs":Str),V.str (tx b)),(("start":Str),V.str (tx c))]:=by simp only[cQ,q06 d1]
  refine⟨C,g,_,U,cl,n2,by simp,?_⟩;rw[e3];refine h3 _ _ ?_;clear h3;have n:bp a H (aE H2 a (.ins C g [(("signs":Str),V.str (tx b)),(("start":Str),V.str (tx c))])):=B.put;have T:aE H2 a (.ins C g [(("signs":Str),V.str (tx b)),(("start":Str),V.str (tx c))]) a=some (.ins C g [(("signs":Str),V.str (tx b)),(("start":Str),V.str (tx c))]):=af;generalize aE H2 a (.ins C g [(("signs":Str),V.str (tx b)),(("start":Str),V.str (tx c))])=H3 at n T ⊢;clear B U;have a0:=n _ _ Z hl;refine aq λN4 h4=>?_;ext;refine⟨_,.inl (aN.of a0),λd j=>?_⟩;have M:d≠a:=λe=>by rw[e,T]at j;cases j
  have hlk0:d≠l:=λe=>by rw[e,a0]at j;cases j
  have sk:aD H3 (aE H3 d (.lst (q.map V.ref))):=ao j;have ek:aE H3 d (.lst (q.map V.ref)) d=some (.lst (q.map V.ref)):=af;have b1:H d=none:=by
   cases e:H d with
   |none=>rfl
   |some u=>rw[n _ _ M e]at j;cases j
  generalize aE H3 d (.lst (q.map V.ref))=H4 at sk ek ⊢;have d2:¬ (("signs":Str)="kept"):=by decide +kernel
  have d3:¬ (("start":Str)="kept"):=by decide +kernel
  have e4:cQ "kept" (V.ref d) [(("signs":Str),V.str (tx b)),(("start":Str),V.str (tx c))]=[(("signs":Str),V.str (tx b)),(("start":Str),V.str (tx c)),(("kept":Str),V.ref d)]:=by simp only[cQ,q06 d2,q06 d3]
  refine⟨C,g,_,sk _ _ T,cl,n3,by simp,?_⟩;rw[e4];refine h4 _ _ ?_;clear h4;have k:bp a H (aE H4 a (.ins C g [(("signs":Str),V.str (tx b)),(("start":Str),V.str (tx c)),(("kept":Str),V.ref d)])):=(n.then sk).put;have p:aE H4 a (.ins C g [(("signs":Str),V.str (tx b)),(("start":Str),V.str (tx c)),(("kept":Str),V.ref d)]) a=some (.ins C g [(("signs":Str),V.str (tx b)),(("start":Str),V.str (tx c)),(("kept":Str),V.ref d)]):=af;have S:aE H4 a (.ins C g [(("signs":Str),V.str (tx b)),(("start":Str),V.str (tx c)),(("kept":Str),V.ref d)]) d=some (.lst (q.map V.ref)):=by rw[av M];exact ek
  generalize aE H4 a (.ins C g [(("signs":Str),V.str (tx b)),(("start":Str),V.str (tx c)),(("kept":Str),V.ref d)])=H5 at k p S ⊢;refine aq λN5 h5=>?_;ext;refine⟨tx c,l,q,I,rfl,k _ _ Z hl,J.upX ha k,hn,λi H6 t m hN hm a8 D=>?_⟩;have L:i≠a:=λe=>by rw[e,p]at m;cases m
  have hpk:i≠d:=λe=>by rw[e,S]at m;cases m
  have b0:H i=none:=by
   cases e:H i with
   |none=>rfl
   |some u=>rw[k _ _ L e]at m;cases m
  have a9:∀x∈t,H x.2.1=none:=λx hx=>by
   have o:=a8 x hx;cases e:H x.2.1 with
   |none=>rfl
   |some u=>rw[k _ _ (λz=>by rw[z,p]at o;cases o) e]at o;cases o
  have d4:¬ (("signs":Str)="numbers"):=by decide +kernel
  have d5:¬ (("start":Str)="numbers"):=by decide +kernel
  have d6:¬ (("kept":Str)="numbers"):=by decide +kernel
  have e6:cQ "numbers" (V.ref i) [(("signs":Str),V.str (tx b)),(("start":Str),V.str (tx c)),(("kept":Str),V.ref d)]=gv b c d i:=by unfold gv;simp only[cQ,q06 d4,q06 d5,q06 d6]
  have a4:=D _ _ p;refine⟨C,g,_,a4,cl,n4,by simp,?_⟩;rw[e6];refine h5 _ _ ?_;clear h5;have r:bp a H (aE H6 a (.ins C g (gv b c d i))):=(k.then D).put;have gf:tz R (aE H6 a (.ins C g (gv b c d i))) C g a b c q I d i t:=by
   refine⟨af,by rw[av M];exact D _ _ S,J.upX ha r,⟨by rw[av L];exact hN.dict,λx hx=>?_,hN.apart⟩,hm⟩;have hq:=hN.list x hx;rw[av (λe=>by rw[e,a4]at hq;cases hq)];exact hq
  have a3:aE H6 a (.ins C g (gv b c d i)) a=some (.ins C g (gv b c d i)):=af;have a2:aE H6 a (.ins C g (gv b c d i)) i=some (.dK (vf t)):=by rw[av L];exact hN.dict
  generalize aE H6 a (.ins C g (gv b c d i))=H7 at r gf a3 a2 ⊢;have Y:(vf t).length=(cr (tx c) I).length:=by rw[<- hm];unfold vf jh;rw[KD,KD]
  ext;refine⟨C,g,_,a3,cl,n4,_,rfl,i,rfl,_,a2,?_⟩;rw[Y];rw[q06 ⋯];exact good H7 d i t r gf b1 b0 a9
abbrev gi:Stmt:=jw 44 2
inductive fm(R:RC)(C:Addr)(vs:List V)(H:Hp)(Q:VK)(_E:XK):Prop
 |mk (a dx:Addr) (sg st:LA) (as:LD) (rs:Yaa) (k:Nat) (b:Addr) (_:vs=[.ref a,.int (k:Int)]) (_:dM R H C dx a sg st as rs) (_:as[k]?=some b) (_:Q (.ref b) H)
theorem sf:aI ["self","k"] ["self","k"] (ax gi):=by walk_at "c"
theorem sd{f:Addr}(F:dw K "rule" "Grammar.rule" gi f fd)(nb:NB mg)(cl:jF K C)(na:aJ K C "signs"/\aJ K C "start"/\aJ K C "kept"/\aJ K C "numbers"):↑bC 1 f fd ["self","k"] (fm R C):=by
 have sc:=sf;walk_at "f"
 ·obtain⟨a,j,sg,st,as,rs,k,b,rfl,g,e,q⟩:=h
  obtain⟨c,pn,t,i,d,hrs,hN,hm⟩:=id g;have hu:=hr.units;refine⟨_,(ai (aP (aY bd (cK (ar 0) rfl) (ar 1) (λ_ _=>rfl)))),?_⟩;ext;exact⟨C,j,_,i,cl,na.2.2.1,_,rfl,c,rfl,_,aN.of d,_,bI (by rw[KG,e];rfl),q⟩
abbrev fz:Stmt:=jw 44 4
inductive gx(R:RC)(C:Addr)(vs:List V)(H:Hp)(Q:VK)(_E:XK):Prop
 |mk (a dx:Addr) (sg st:LA) (as:LD) (rs:Yaa) (_:vs=[.ref a]) (_:dM R H C dx a sg st as rs) (_:∀l H',H l=none->H' l=some (.lst ((cr (tx st) rs).map λq=>V.str q.1))->aD H H'->Q (.ref l) H')
theorem pO:aI ["self"] ["self"] (ax fz):=by walk_at "c"
theorem pP{f:Addr}(F:dw K "names" "Grammar.names" fz f fd)(nb:NB mg)(cl:jF K C)(na:aJ K C "signs"/\aJ K C "start"/\aJ K C "kept"/\aJ K C "numbers"):↑bC 1 f fd ["self"] (gx R C):=by
 have sc:=pO;walk_at "f"
 ·obtain⟨a,j,sg,st,as,rs,rfl,g,q⟩:=h
  obtain⟨lk,c,t,e,hk,hrs,i,d⟩:=id g;have hu:=hr.units;refine⟨_,(ai (aP (cV (wZ rfl) rfl nb.list eF (ac (cK (ar 0) rfl) ad)))),?_⟩;ext;refine⟨C,j,_,e,cl,na.2.2.2,_,rfl,c,rfl,_,i.dict,λl b=>q l _ b ?_ (ao b)⟩;rw[af,<- d];unfold vf jh;rw[KS,KS]
  rfl
abbrev fg:Stmt:=jw 44 1
inductive gB(R:RC)(C:Addr)(vs:List V)(H:Hp)(Q:VK)(_E:XK):Prop
 |mk (a dx:Addr) (sg st:LA) (as:LD) (rs:Yaa) (_:vs=[.ref a]) (_:dM R H C dx a sg st as rs) (_:∀l H',H l=none->H' l=some (.lst (as.map V.ref))->aD H H'->Q (.ref l) H')
theorem qg:aI ["self"] ["self"] (ax fg):=by walk_at "c"
theorem pL{f:Addr}(F:dw K "rules" "Grammar.rules" fg f fd)(nb:NB mg)(cl:jF K C)(na:aJ K C "signs"/\aJ K C "start"/\aJ K C "kept"/\aJ K C "numbers"):↑bC 1 f fd ["self"] (gB R C):=by
 have sc:=qg;walk_at "f"
 ·obtain⟨a,j,sg,st,as,rs,rfl,g,q⟩:=h
  obtain⟨c,pn,t,i,e,hrs,hN,hm⟩:=id g;have hu:=hr.units;refine⟨_,(ai (aP (cV cN rfl nb.list eF (ac (cK (ar 0) rfl) ad)))),?_⟩;ext;exact⟨C,j,_,i,cl,na.2.2.1,_,rfl,c,rfl,_,.inl (aN.of e),λd b=>q d _ b af (ao b)⟩
abbrev oP:Stmt:=fS 17
inductive ri(K:W.Frag)(vs:List V)(H:Hp)(Q:VK)(_E:XK):Prop
 |mk (a:Addr) (p:aL) (_:vs=[.ref a]) (_:aN K H a (au p)) (_:dl p) (_:gL H (mirror p) Q)
theorem yu:aI ["picture"] ["picture"] (ax oP):=by walk_at "c"
theorem yw{f:Addr}(F:dw K "mirror" "mirror" oP f fd)(nb:NB mg):↑bC 1 f fd ["picture"] (ri K):=by
 have sc:=yu;walk_at "f"
 ·obtain⟨a,p,rfl,j,g,q⟩:=h
  refine⟨_,(ai (aP (cq ["row"] [] rfl (bP.of (by kernel_rfl)) (by kernel_rfl) (bG (ar 0))
    (λ_ _ _ _=>(aw (i:=0) (by show(["row"]:List Str).Nodup;decide +kernel) rfl (Or.inl rfl))) (λ_ _ _ _=>b9) (λ_ _ _ _=>(nu rfl rfl nb.reversed (ac (ar 0) ad)))))),?_⟩
  ext;refine⟨⟨_,j⟩,eC (xs:=au p) (λi b σ d=>d=H/\b=au (mirror (p.take i))/\i<=p.length/\∃x,σ=[x]) ⟨rfl,rfl,K5 _,_,rfl⟩ ?_ ?_ ?_ ?_ ?_⟩
  ·rintro i b σ d ⟨_,rfl,_⟩
   refine aR ?_;rw[am];unfold mirror;rw[KD,Lg];have:=g.1;omega
  ·rintro i b σ d ⟨_,_,h,_⟩
   rw[am];exact h
  ·rintro i b σ d ⟨rfl,_⟩
   exact j
  ·rintro i x b σ d e ⟨rfl,rfl,hi,y,rfl⟩
   have c:i<p.length:=by have:=(KA.mp e).1;rwa [am]at this
   rw[br c]at e;cases e;have hr:=g.2 _ (KM c);ext;refine⟨by rw[aC];omega,by decide,?_,c⟩;rw[cX,jc,q0E,Kz c];unfold mirror;rw[KQ];exact(cF _ _).symm
  ·rintro b σ d ⟨rfl,rfl,_⟩ l c
   rw[am,Lf];exact q l _ c af (ao c)
abbrev dy:Stmt:=fS 19
inductive q_(K:W.Frag)(vs:List V)(H:Hp)(Q:VK)(_E:XK):Prop
 |mk (a:Addr) (p:aL) (i:Nat) (_:vs=[.ref a,.int (i:Int)]) (_:aN K H a (au p)) (_:dl p) (_:(∀r∈p,i<r.length)) (_:∀H',aD H H'->Q (.str (tx (rE p i))) H')
theorem zx:aI ["picture","i"] ["picture","i"] (ax dy):=by walk_at "c"
theorem za{f:Addr}(F:dw K "column_from_below" "column_from_below" dy f fd)(nb:NB mg):↑bC 1 f fd ["picture","i"] (q_ K):=by
 have sc:=zx;walk_at "f"
 ·obtain⟨a,p,i,rfl,v,m,z,q⟩:=h
  refine⟨_,(ai (aP (@qK _ _ _ _ _ _ _ _ (ac (cq ["row"] [1] rfl (bP.of (by kernel_rfl)) (by kernel_rfl) (AO rfl nb.reversed (ac (ar 0) ad))
    (λ_ _ _ _=>(aw (i:=0) (by show(["row","i"]:List Str).Nodup;decide +kernel) rfl (Or.inl rfl))) (λ_ _ _ _=>b9) (λ_ _ _ _=>(aY nB (ar 0) (ar 1) (λ_ _=>rfl)))) ad) rfl rfl))),?_⟩
  ext;have hd:∀n,((p.reverse.take n).map λr=>V.str ⟨#[r.getD i 0]⟩)=(((p.reverse.take n).map λr=>r.getD i 0).map λc=>(⟨#[c]⟩:Str)).map V.str:=λn=>by rw[KS,KS];rfl
  refine⟨rfl,_,v,uO (xs:=au p) (λn b σ g=>g=H/\b=((p.reverse.take n).map λr=>V.str ⟨#[r.getD i 0]⟩)/\n<=p.length/\∃x,σ=[x,some (.int (i:Int))]) ⟨rfl,rfl,K5 _,_,rfl⟩ ?_ ?_ ?_ ?_ ?_⟩
  ·rintro n b σ g ⟨_,rfl,_⟩
   refine aR ?_;rw[KD,Lg];have:=m.1;rw[KY];omega
  ·rintro n b σ g ⟨_,_,h,_⟩
   rw[am];exact h
  ·rintro n b σ g ⟨rfl,_⟩
   exact v
  ·rintro n x b σ g o ⟨rfl,rfl,hn,y,rfl⟩
   have d:n<p.reverse.length:=by
    have:=(KA.mp o).1
    rwa [KY,am,<- KY (as:=p)]at this
   have j:(au p.reverse)[n]?=some x:=by unfold au at o ⊢;rwa [List.map_reverse]
   rw[br d]at j;cases j;have u:p.reverse[n]∈p:=List.mem_reverse.mp (KM d);have hr:=m.2 _ u;have k:=z _ u;ext;have B:(tx p.reverse[n]).cps.toList[i]?=some (p.reverse[n].getD i 0):=by rw[cX,q0A,Kz k];rfl
   refine⟨by rw[aC];exact az ⋯,_,bI B,?_,by rw[KY]at d;exact d⟩;rw[q0E,Kz d,KQ]
   rfl
  ·rintro b σ g ⟨rfl,rfl,_⟩ l d
   rw[am,<- KY (as:=p),Lf]at *;refine⟨(rE p i).map λc=>(⟨#[c]⟩:Str),.inl (aN.of ?_),?_,?_⟩
   ·rw[af];unfold rE;rw[KS,KS];rfl
   ·rw[KS]
    have e:((λy:Str=>y.length)∘λc=>(⟨#[c]⟩:Str))=λ_=>1:=by funext c;rfl
    rw[e,List.map_const',List.sum_replicate_nat,KD];have C:(Str.ofString "").length=0:=rfl;rw[C];have:=m.1;unfold rE;rw[KD,KY];omega
   ·rw[jc];exact q _ (ao d)
abbrev kP:Stmt:=fS 18
inductive ij(K:W.Frag)(vs:List V)(H:Hp)(Q:VK)(_E:XK):Prop
 |mk (a:Addr) (p:aL) (r c:Nat) (_:vs=[.ref a]) (_:aN K H a (au p)) (_:rect p r c) (_:0<r) (_:r<=64) (_:c<=64) (_:gL H (bF p) Q)
theorem wz:aI ["picture"] ["picture"] (ax kP):=by walk_at "c"
theorem w9{f:Addr}(F:dw K "quarter" "quarter" kP f fd)(nb:NB mg)(yaE:↑dP 1 "column_from_below" ["picture","i"] (q_ K)):↑bC 2 f fd ["picture"] (ij K):=by
 have sc:=wz;walk_at "f"
 ·obtain⟨a,p,r,c,rfl,B,e,d,m,o,q⟩:=h
  refine⟨_,(ai (aP (cq ["i"] [0] rfl (bP.of (by kernel_rfl)) (by kernel_rfl) (bL rfl nb.range (ac (aB bi rfl nb.len aX (ac (aY bd (ar 0) aj (λ_ _=>rfl)) ad)) ad))
    (λ_ _ _ _=>(aw (i:=0) (by show(["i","picture"]:List Str).Nodup;decide +kernel) rfl (Or.inl rfl))) (λ_ _ _ _=>b9) (λ_ _ _ _=>(q00 yaE hr (ac (ar 1) (ac (ar 0) ad))))))),?_⟩
  ext;have g:0<p.length:=by rw[e.1];exact d
  have u:(p[0]).length=c:=e.2 _ (KM g);have D:(p.headD []).length=c:=bf e d;refine⟨_,B,_,bI (br g),_,rfl,by rw[aC];exact az ⋯,by rw[aC];omega,by rw[aC];omega,?_⟩;rw[aC,u,KN];refine gY (lo:=0) (n:=c) (λi b σ j=>aD H j/\b=au ((List.range i).map (rE p))/\i<=c/\∃x,σ=[x,some (.ref a)]) ⟨aD.refl _,rfl,K5 _,_,rfl⟩ ?_ ?_ ?_ ?_
  ·rintro i b σ j ⟨_,rfl,_⟩
   refine aR ?_;rw[am,KD,q0J];omega
  ·rintro i b σ j ⟨_,_,h,_⟩
   exact h
  ·rintro i b σ j z ⟨sm,rfl,_,y,rfl⟩
   ext;refine⟨a,p,i,by simp,sm.seq B,dl.of e m o,λx C=>by rw[e.2 x C];exact z,λH2 k=>⟨sm.trans k,?_,z⟩⟩;rw[q0M,KQ];exact(cF _ _).symm
  ·rintro b σ j ⟨sm,rfl,_⟩ l v
   refine q l _ (sm.free v) ?_ (sm.trans (ao v));rw[af];unfold bF;rw[D]
abbrev pE:Stmt:=fS 16
inductive i7(K:W.Frag)(vs:List V)(H:Hp)(Q:VK)(_E:XK):Prop
 |mk (a:Addr) (p:aL) (r c t:Nat) (_:vs=[.ref a,.int (t:Int)]) (_:aN K H a (au p)) (_:rect p r c) (_:0<r) (_:0<c) (_:r<=64) (_:c<=64) (_:t<8) (_:gL H (turned p t) Q)
theorem yy:aI ["picture","t","result","step"] ["picture","t"] (ax pE):=by walk_at "c"
theorem yN{f:Addr}(F:dw K "turned" "turned" pE f fd)(nb:NB mg)(yaM:↑dP 1 "mirror" ["picture"] (ri K))(yas:↑dP 2 "quarter" ["picture"] (ij K)):↑bC 3 f fd ["picture","t"] (i7 K):=by
 have sc:=yy;walk_at "f"
 ·obtain⟨a,p,r,c,t,rfl,hS,hp,hr0,hc0,hr1,hc1,ht,q⟩:=h
  refine⟨_,(ae (q01 2 sc.nd (cV cN rfl nb.list eF (ac (pv 0) ad)))
   (ae (bX (aQ Ea (pv 1) aj (a_ _))
   (ai (q01 2 sc.nd (q00 yaM hr (ac (pv 2) ad))))
   bj)
   (ae (aS PassesOwn.never rfl (bL rfl nb.range (ac (ay aZ (pv 1) aj) ad)) (q02 3 sc.nd)
   (ai (q01 2 sc.nd (q00 yas hr (ac (pv 2) ad)))))
   (ai (aP (pv 2)))))),?_⟩
  ext
  -- the aT,from the list at l
  have loop:∀(l:Addr) (p':aL) (H1:Hp),H l=none->H1 l=some (.lst (au p'))->aD H H1->rect p' r c->turned p t=aT (t%4) p' ->
    ∀(g:TG) (tb:TS) (D:fF),g=jA 3->tb=zA (l_ (ij K) [] E0 (jB (Ci 2) om)) (jA 2)->(∀σ' H' v,σ'[2]?=some (some v)->Q v H'->D.nx σ' H')->rK (xV 0 ((t:Int)%4).toNat) g tb D [some (V.ref a),some (V.int t),some (V.ref l),none] H1:=by
   intro l p' H1 hl h1 sm hp' et g tb D hg htb hD;subst hg htb;have e4:((t:Int)%4).toNat=t%4:=by omega
   rw[e4];refine bv (λi σ H2=>∃(l2:Addr) (x:Option V),σ=[some (V.ref a),some (V.int t),some (V.ref l2),x]/\H l2=none/\H2 l2=some (.lst (au (aT i p')))/\aD H H2) ⟨l,none,rfl,hl,h1,sm⟩ ?_ ?_
   ·rintro i σ H2 hi ⟨l2,x,rfl,h2,h3,sm2⟩
    ext;have hq:=cZ i hp' hr0 hc0;have gp:∀r' c',rect (aT i p') r' c'->0<r'->r'<=64->c'<=64->ij K [V.ref l2] H2 (λx_1 H1=>∃l2,x_1=V.ref l2/\H l2=none/\H1 l2=some (HO.lst (au (aT (i+1) p')))/\aD H H1) E0:=λr' c' h4 h5 h6 h7=>
     ⟨l2,aT i p',r',c',rfl,aN.of h3,h4,h5,h6,h7,λl3 H3 h8 h9 sm3=>⟨l3,rfl,sm2.free h8,by rw[h9,<- cM 1 i p'];rfl,sm2.trans sm3⟩⟩
    by_cases jS:i%2=0
    ·rw[q07 jS,q07 jS]at hq
     exact gp r c hq hr0 hr1 hc1
    ·rw[q06 jS,q06 jS]at hq
     exact gp c r hq hc0 hc1 hr1
   ·rintro σ H2 ⟨l2,x,rfl,h2,h3,sm2⟩
    exact hD _ _ _ rfl (q l2 H2 h2 (by rw[h3,et]) sm2)
  refine⟨_,.inl hS,λl hl=>?_⟩
  split
  ·rename_i h4
   refine⟨l,p,rfl,aN.of af,dl.of hp hr1 hc1,λl2 H2 h2 h3 sm2=>⟨⋯,⋯,?_⟩⟩;refine loop l2 (mirror p) H2 ((ao hl).free h2) h3 ((ao hl).trans sm2) (cw hp) (by unfold turned;rw[q07 ⋯]) _ _ _ rfl rfl ?_;intro σ' H' v e hq;exact⟨v,e,hq⟩
  ·rename_i h4
   refine⟨⋯,⋯,?_⟩;refine loop l p _ hl af (ao hl) hp (by unfold turned;rw[q06 ⋯]) _ _ _ rfl rfl ?_;intro σ' H' v e hq;exact⟨v,e,hq⟩
def j7(r:Nat×RV):List V:=match r.1 with
 |0=>[.int 0,.str (tx r.2.n),.int r.2.c,.str (tx r.2.sg),.str ""]
 |1=>[.int 1,.str (tx r.2.n),.int r.2.c,.str (tx r.2.o1),.str (tx r.2.o2)]
 |2=>[.int 2,.str (tx r.2.n),.int r.2.c,.str (tx r.2.o1),.str (tx r.2.o2)]
 |_=>[.int 3,.str (tx r.2.n),.int r.2.c,.str (tx r.2.o1),.int r.2.t]
def cE(H:Hp)(l:Addr)(ts:LD)(rs:Yaa):Prop:=H l=some (.lst (ts.map V.ref))/\ts.length=rs.length/\∀(i:Nat) t r,ts[i]?=some t->rs[i]?=some r->H t=some (.tup (j7 r))
theorem cE.up(h:cE H l ts rs)(s:aD H H'):cE H' l ts rs:=⟨s _ _ h.1,h.2.1,λi t r e1 e2=>s _ _ (h.2.2 i t r e1 e2)⟩
theorem eM{k:Nat}(h:k<4):k=0\/k=1\/k=2\/k=3:=by omega
structure kF(r:Nat×RV):Prop where
 k4:r.1<4
 good:r.2.good
 small:r.2.small
structure iQ(p:aL)(sg:LA)(r:Nat×RV):Prop where
 good:kF r
 n:r.2.n∈p
 o1:r.2.o1∈p
 o2:r.2.o2∈p
 sg:∃c∈sg,r.2.sg=[c]
theorem cE.app{t:Addr}(h:cE H l ts rs)(ht:H t=some (.tup (j7 r))):cE (aE H l (.lst (ts.map V.ref++[V.ref t]))) l (ts++[t]) (rs++[r]):=by
 obtain⟨h1,h2,k⟩:=h;refine⟨by rw[af,KQ];rfl,by rw[K3,K3,h2];rfl,λi c d b g=>?_⟩;have a:∀c d,H c=some (.tup (j7 d))->aE H l (.lst (ts.map V.ref++[V.ref t])) c=some (.tup (j7 d)):=λc d e=>by
  rw[av (λz=>by rw[z,h1]at e;cases e)];exact e
 by_cases j:i<ts.length
 ·rw[K2 j]at b
  rw[K2 ⋯]at g;exact a _ _ (k i c d b g)
 ·rw[K1 ⋯]at b
  rw[K1 ⋯]at g;have jS:i=ts.length:=by
   have:=(KA.mp b).1;simp at this;omega
  subst jS;rw[Nat.sub_self]at b;rw[h2,Nat.sub_self]at g;cases b;cases g
  exact a _ _ ht
def addNew(ks:LI)(z:Str):List Str:=if z∈ks then ks else ks++[z]
theorem qv(m:List (Str×List Nat))(z:Str):(cB m z).map (·.1)=addNew (m.map (·.1)) z:=by
 unfold cB addNew
 split
 ·rfl
 ·rw[KQ];rfl
theorem oq:∀(zs:LI) (m:List (Str×List Nat)),(zs.foldl cB m).map (·.1)=zs.foldl addNew (m.map (·.1))
 | [],_=>rfl
 |z::zs,m=>by rw[List.foldl_cons,List.foldl_cons,oq zs,qv]
theorem yB(m:List (Str×List Nat))(i:Nat)(r:Nat×RV):(eO m i r).map (·.1)=(tx r.2.n::(cC r.1 r.2).map tx).foldl addNew (m.map (·.1)):=by
 unfold eO;rw[oq,il,qv,List.foldl_cons]
def oQ(z:Str)(rs:Yaa):List Nat:=rs.zipIdx.filterMap λx=>if tx x.1.2.n=z then some x.2 else none
theorem vK(z:Str)(rs:Yaa)(r:Nat×RV):oQ z (rs++[r])=oQ z rs++if tx r.2.n=z then[rs.length] else[]:=by
 unfold oQ;rw[List.zipIdx_append,List.filterMap_append]
 congr 1
 simp
 split<;>rename_i h<;>simp[h]
theorem xq{z:Str}:∀{rs:Yaa},(∀r∈rs,tx r.2.n≠z)->oQ z rs=[]:=by
 intro rs h;unfold oQ;rw[List.filterMap_eq_nil_iff];intro x a;rw[q06 (h x.1 (List.fst_mem_of_mem_zipIdx a))]
structure NI(rs:Yaa)(m:List (Str×List Nat)):Prop where
 nd:(m.map (·.1)).Nodup
 ix:∀q∈m,q.2=oQ q.1 rs
 all:∀r∈rs,tx r.2.n∈m.map (·.1)
theorem nI{y:Str}:y∈(cB m z).map (·.1)↔y∈m.map (·.1)\/y=z:=by
 unfold cB
 split
 ·rename_i h
  exact⟨λq=>.inl q,λq=>q.elim id λe=>e▸h⟩
 ·rw[KQ,KR];simp
theorem NI.name(h:NI rs m)(z:Str):NI rs (cB m z):=by
 refine⟨ku h.nd,λq hq=>?_,λr hr=>nI.mpr (.inl (h.all r hr))⟩;unfold cB at hq
 split at hq
 ·exact h.ix q hq
 ·rename_i hz
  rcases KR.mp hq with q1 | q1
  ·exact h.ix q q1
  ·rw[KF.mp q1]
   exact(xq (z:=z) λr hr e=>hz (by rw[<- e];exact h.all r hr)).symm
theorem NI.names:∀(zs:LI) {m:List (Str×List Nat)},NI rs m->NI rs (zs.foldl cB m)
 | [],_,h=>h
 |z::zs,m,h=>NI.names zs (h.name z)
theorem NI.put{r:Nat×RV}(h:NI rs m)(hn:tx r.2.n∈m.map (·.1)):NI (rs++[r]) (iu m (tx r.2.n) rs.length):=by
 refine⟨by rw[il];exact h.nd,λq b=>?_,λd a=>?_⟩
 ·unfold iu at b
  obtain⟨p,c,rfl⟩:=Lm.mp b;rw[vK]
  by_cases e:p.1=tx r.2.n
  ·rw[q07 e]
   show p.2++[rs.length]=oQ p.1 rs++_;rw[q07 e.symm,h.ix p c]
  ·rw[q06 e,q06 (λz=>e z.symm),Lc]
   exact h.ix p c
 ·rw[il]
  rcases KR.mp a with q | q
  ·exact h.all d q
  ·rw[KF.mp q];exact hn
theorem lR(z:Str):∀(n:Nat) (rs:Yaa),rs.length=n->NI rs (cr z rs)
 |0,rs,h=>by
  rw[Ll.mp h];exact⟨by simp[cr,fN],λq hq=>by rw[show q=(z,[]) by simpa[cr,fN]using hq];rfl,λr hr=>nomatch hr⟩
 |n+1,rs,h=>by
  obtain⟨rs',r,rfl⟩:∃rs' r,rs=rs'++[r]:=⟨rs.dropLast,rs.getLast (by intro e;rw[e]at h;cases h),(List.dropLast_concat_getLast _).symm⟩;have hl:rs'.length=n:=by rw[K3,q0Z]at h;omega
  have a:=lR z n rs' hl;unfold cr at a ⊢;rw[f_,Nat.zero_add];unfold eO;exact((a.name (tx r.2.n)).put (nI.mpr (.inr rfl))).names _
def FE(rs:Yaa):List ThM.NR:=rs.map λr=>(tx r.2.n,(cC r.1 r.2).map tx)
theorem ww{ks:LI}{y:Str}:y∈addNew ks z↔y∈ks\/y=z:=ThM.mem_addNew
theorem kz{y:Str}:∀(zs ks:LI),y∈zs.foldl addNew ks↔y∈ks\/y∈zs
 | [],ks=>by simp
 |z::zs,ks=>by
  rw[List.foldl_cons,kz zs,ww,KU];exact⟨λh=>h.elim (λh=>h.elim .inl λe=>.inr (.inl e)) λh=>.inr (.inr h),λh=>h.elim (λh=>.inl (.inl h)) λh=>h.elim (λe=>.inl (.inr e)) .inr⟩
theorem yY(z:Str)(rs:Yaa)(r:Nat×RV):(cr z (rs++[r])).map (·.1)=(tx r.2.n::(cC r.1 r.2).map tx).foldl addNew ((cr z rs).map (·.1)):=by
 unfold cr;rw[f_,yB]
theorem BP{α:Type}{P:List α->Prop}(h0:P [])(h1:∀rs r,P rs->P (rs++[r]))(rs:List α):P rs:=by
 have:∀(n:Nat) (rs:List α),rs.length=n->P rs:=by
  intro n
  induction n with
  |zero=>intro rs h;rw[Ll.mp h];exact h0
  |succ n ih=>
   intro rs h;have a:rs≠[]:=by intro e;rw[e]at h;cases h
   rw[<- List.dropLast_concat_getLast a];exact h1 _ _ (ih _ (by rw[List.length_dropLast];omega))
 exact this _ rs rfl
theorem kn(z:Str)(rs:Yaa):∀y,y∈(cr z rs).map (·.1)↔y=z\/∃r∈FE rs,y=r.1\/y∈r.2:=by
 refine BP (P:=λrs=>∀y,y∈(cr z rs).map (·.1)↔y=z\/∃r∈FE rs,y=r.1\/y∈r.2) ?_ ?_ rs
 ·intro y
  have e:(cr z []).map (·.1)=[z]:=rfl;rw[e];unfold FE;simp
 ·intro rs r a y
  rw[yY,kz,a y,KU];unfold FE;rw[KQ]
  constructor
  ·rintro((h | ⟨q,hq,h⟩) | h)
   ·exact .inl h
   ·exact .inr ⟨q,KR.mpr (.inl hq),h⟩
   ·exact .inr ⟨_,KR.mpr (.inr (KF.mpr rfl)),h⟩
  ·rintro(h | ⟨q,hq,h⟩)
   ·exact .inl (.inl h)
   ·rcases KR.mp hq with hq | hq
    ·exact .inl (.inr ⟨q,hq,h⟩)
    ·rw[KF.mp hq]at h
     exact .inr h
theorem DE{sg:LA}{c:Nat}(h:c∈sg):Go (tx sg) (tx [c])=true:=by
 have:=StrLaws.found_one (tx sg) c;show(!(Builtin.Str.occurrences (tx sg) ⟨#[c]⟩ 0 (tx sg).length 1).isEmpty)=true;rw[this,cX,q09 h]
theorem kj{sg:LA}:∀{rs:Yaa} {j:Nat},(∀r∈rs,∃c∈sg,r.2.sg=[c])->ge (tx sg) rs j=none
 | [],_,_=>rfl
 |r::rs,j,h=>by
  obtain⟨c,hc,e⟩:=h r q0B;unfold ge;rw[q06 (λz=>by rw[e,DE hc]at z;exact q0Q z.2 (by decide))];exact kj λr' hr'=>h r' (KW _ hr')
theorem zb{p:aL}{st:LA}{rs:Yaa}(hsg:hU sg=true)(hst:st∈p)(hpn:∀r∈p,di r=true)(hp:p.length<=8)(hn:rs.length<=24)(hr:∀r∈rs,iQ p sg r):oN sg st rs=none:=by
 have i:gX sg st rs=none:=by
  unfold gX;rw[q06 (by rw[hsg];decide),q06 (by rw[hpn _ hst];decide),q06 ⋯,kj λr h=>(hr r h).sg]
 unfold oN;rw[i];simp only[];rw[q06];have g:∀z∈(cr (tx st) rs).map (·.1),z∈p.map tx:=λz d=>by
  rcases(kn _ _ _).mp d with e | ⟨q,c,e⟩
  ·rw[e];exact List.mem_map_of_mem hst
  ·unfold FE at c
   obtain⟨r,b,rfl⟩:=Lm.mp c;have R:=hr r b;rcases e with e | e
   ·rw[e];exact List.mem_map_of_mem R.n
   ·obtain⟨y,a,rfl⟩:=Lm.mp e
    refine List.mem_map_of_mem ?_;obtain⟨k,v⟩:=r;rcases eM R.good.k4 with rfl | rfl | rfl | rfl
    ·exact q0Q a List.not_mem_nil
    ·rcases(show y=v.o1\/y=v.o2 by simpa[cC]using a) with rfl | rfl
     ·exact R.o1
     ·exact R.o2
    ·rcases(show y=v.o1\/y=v.o2 by simpa[cC]using a) with rfl | rfl
     ·exact R.o1
     ·exact R.o2
    ·rw[show y=v.o1 by simpa[cC]using a];exact R.o1
 have:=ThM.nd_len (lR (tx st) _ rs rfl).nd g;rw[KD,KD]at this;omega
theorem bN.zip(h:bN R H as rs):(as.zip rs).map (λx=>V.ref x.1)=as.map V.ref/\(as.zip rs).map (·.2)=rs/\∀x∈as.zip rs,gn R H x.2.1 x.1 x.2.2:=by
 refine⟨?_,List.map_snd_zip (by have:=h.1;omega),λx b=>?_⟩
 ·have e:(as.zip rs).map (λx=>V.ref x.1)=((as.zip rs).map Prod.fst).map V.ref:=by rw[KS];rfl
  rw[e,List.map_fst_zip (by have:=h.1;omega)]
 ·obtain⟨i,c,e⟩:=List.mem_iff_getElem.mp b
  have a:(as.zip rs)[i]?=some x:=by rw[Kz c,e]
  rw[List.getElem?_zip_eq_some]at a;exact h.2 i x.1 x.2 a.1 a.2
structure HP(K:W.Frag)(C:Addr):Prop where
 cl:jl K C
 na:aJ K C "signs"/\aJ K C "start"/\aJ K C "kept"/\aJ K C "numbers"
abbrev sU:Stmt:=fS 8
theorem Ft(x:Str):x=tx x.cps.toList:=by unfold tx;simp
theorem xU(p:aL):Txt.join (Str.ofString "/") (p.map tx)=tx (SpM.glue 47 p):=by
 have e:(Txt.join (Str.ofString "/") (p.map tx)).cps.toList=SpM.glue 47 p:=by
  have h:=SpM.join_glue 47 (p.map tx);rw[KS]at h;have a:((λy:Str=>y.cps.toList)∘tx)=id:=by funext r;exact cX r
  rw[a,List.map_id]at h;exact h
 rw[<- e];exact Ft _
inductive gD(K:W.Frag)(vs:List V)(H:Hp)(Q:VK)(_E:XK):Prop
 |mk (a:Addr) (p:aL) (_:vs=[.ref a]) (_:H a=some (.lst (au p))) (_:dl p) (_:Q (.str (tx (SpM.glue 47 p))) H)
theorem A_:aI ["picture"] ["picture"] (ax sU):=by walk_at "c"
theorem gH:∀{p:aL} {n:Nat},(∀r∈p,r.length<=n)->((p.map tx).map λy:Str=>y.length).sum<=p.length*n
 | [],n,_=>by simp
 |r::p,n,h=>by
  have h1:=h r (by simp);have h2:=gH (p:=p) (n:=n) λx hx=>h x (by simp[hx]);simp only[K_,List.sum_cons,aC,KP];rw[Nat.succ_mul];omega
theorem Bx{f:Addr}(F:dw K "shown" "shown" sU f fd):↑bC 1 f fd ["picture"] (gD K):=by
 have sc:=A_;walk_at "f"
 ·obtain⟨a,p,rfl,c,b,q⟩:=h
  refine⟨_,(ai (aP (@qK _ _ _ _ _ _ _ _ (ac (ar 0) ad) rfl rfl))),?_⟩;ext;refine⟨rfl,p.map tx,.inl (by rw[<- d8];exact aN.of c),?_,?_⟩
  ·have:=gH b.2
   have h1:=b.1;have d:(Str.ofString "/").length=1:=rfl;rw[KD,d];have h2:p.length*64<=64*64:=Nat.mul_le_mul_right _ h1;omega
  ·rw[xU];exact q
abbrev nK:Stmt:=fS 13
def qT(sb:Bool)(p:aL)(n:Nat):aL:=if sb=true then p.map (List.take n) else p.take n
def li(sb:Bool)(p:aL)(n:Nat):aL:=if sb=true then p.map (List.drop n) else p.drop n
inductive qX(K:W.Frag)(vs:List V)(H:Hp)(Q:VK)(_E:XK):Prop
 |mk (sb:Bool) (a:Addr) (p:aL) (r c n:Nat) (_:vs=[.ref a,.bl sb,.int (n:Int)]) (_:aN K H a (au p)) (_:rect p r c) (_:r<=6) (_:c<=6) (_:n<=(if sb=true then c else r)) (_:∀(t l1 l2:Addr) (H':Hp),H t=none->H l1=none->H l2=none->l1≠l2->H' t=some (.tup [.ref l1,.ref l2])->H' l1=some (.lst (au (qT sb p n)))->H' l2=some (.lst (au (li sb p n)))->aD H H'->Q (.ref t) H')
theorem zF:aI ["picture","side_by_side","at"] ["picture","side_by_side","at"] (ax nK):=by walk_at "c"
theorem Ap{row:LA}{n:Nat}(h:n<=row.length):Txt.slice (tx row) none (some (n:Int))=tx (row.take n):=by
 rw[fB,HT.sIx_nat,Lv h];show tx ((row.drop 0).take (n-0))=_;rw[Lw,Nat.sub_zero]
theorem xm{row:LA}{n:Nat}(h:n<=row.length):Txt.slice (tx row) (some (n:Int)) none=tx (row.drop n):=by
 rw[fB,HT.sIx_nat,Lv h];show tx ((row.drop n).take (row.length-n))=_;rw[q0F (by rw[Lh];omega)]
theorem ED{p:aL}{n:Nat}(h:n<=p.length):ju (au p) none (some (n:Int))=au (p.take n):=by
 unfold ju;rw[HT.sIx_nat,am,Lv h];show((au p).drop 0).take (n-0)=_;rw[Lw,Nat.sub_zero];unfold au;rw[List.map_take]
theorem AU{p:aL}{n:Nat}(h:n<=p.length):ju (au p) (some (n:Int)) none=au (p.drop n):=by
 unfold ju;rw[HT.sIx_nat,am,Lv h];show((au p).drop n).take (p.length-n)=_;rw[q0F (by rw[Lh,am];omega)];unfold au;rw[List.map_drop]
theorem zy{f:Addr}(F:dw K "parted" "parted" nK f fd)(nb:NB mg):↑bC 1 f fd ["picture","side_by_side","at"] (qX K):=by
 have sc:=zF;walk_at "f"
 ·obtain⟨J,a,p,r,c,n,rfl,B,z,hr1,hc1,D,q⟩:=h
  refine⟨_,(ae (bX (fb (ar 1) λ_=>rfl)
   (ai (aP (bO (ac (cq ["row"] [2] rfl (bP.of (by kernel_rfl)) (by kernel_rfl) (bG (ar 0))
    (λ_ _ _ _=>(aw (i:=0) (by show(["row","at"]:List Str).Nodup;decide +kernel) rfl (Or.inl rfl))) (λ_ _ _ _=>b9) (λ_ _ _ _=>(cY lG (ar 0) fX (cS (ar 1))))) (ac (cq ["row"] [2] rfl (bP.of (by kernel_rfl)) (by kernel_rfl) (bG (ar 0))
    (λ_ _ _ _=>(aw (i:=0) (by show(["row","at"]:List Str).Nodup;decide +kernel) rfl (Or.inl rfl))) (λ_ _ _ _=>b9) (λ_ _ _ _=>(cY lG (ar 0) (cS (ar 1)) fX))) ad)))))
   bj)
   (ai (aP (bO (ac (cY jf (ar 0) fX (cS (ar 2))) (ac (cY jf (ar 0) (cS (ar 2)) fX) ad)))))),?_⟩
  ext;cases J with
  |true=>
   rw[q07 rfl]at D ⊢;refine⟨⟨_,B⟩,eC (xs:=au p) (λi b σ l=>l=H/\b=au ((p.take i).map (List.take n))/\i<=p.length/\∃y,σ=[y,some (V.int (n:Int))]) ⟨rfl,rfl,K5 _,_,rfl⟩ ?_ ?_ ?_ ?_ ?_⟩
   ·rintro i b σ l ⟨_,rfl,I,_⟩
    rw[am,KD,Lg];exact aR (by rw[z.1]at *;omega)
   ·rintro i b σ l ⟨_,_,h,_⟩
    rw[am];exact h
   ·rintro i b σ l ⟨rfl,_⟩
    exact B
   ·rintro i v b σ l x ⟨rfl,rfl,I,y,rfl⟩
    have m:i<p.length:=by have:=(KA.mp x).1;rwa [am]at this
    rw[br m]at x;cases x;have C:=z.2 _ (KM m);ext;refine⟨by rw[aC];exact az ⋯,?_,m⟩;rw[Ap ⋯,q0E,Kz m,KQ];exact(cF _ _).symm
   ·rintro b σ l ⟨rfl,rfl,_⟩ g j
    rw[am,Lf];have sm:aD l (aE l g (HO.lst (au (p.map (List.take n))))):=ao j;have h1:aE l g (HO.lst (au (p.map (List.take n)))) g=some (HO.lst (au (p.map (List.take n)))):=af;generalize aE l g (HO.lst (au (p.map (List.take n))))=H1 at sm h1 ⊢;refine⟨⟨_,sm.seq B⟩,eC (xs:=au p) (λi b σ H2=>H2=H1/\b=au ((p.take i).map (List.drop n))/\i<=p.length/\∃y,σ=[y,some (V.int (n:Int))]) ⟨rfl,rfl,K5 _,_,rfl⟩ ?_ ?_ ?_ ?_ ?_⟩
    ·rintro i b σ H2 ⟨_,rfl,I,_⟩
     rw[am,KD,Lg];exact aR (by rw[z.1]at *;omega)
    ·rintro i b σ H2 ⟨_,_,h,_⟩
     rw[am];exact h
    ·rintro i b σ H2 ⟨rfl,_⟩
     exact sm.seq B
    ·rintro i v b σ H2 x ⟨rfl,rfl,I,y,rfl⟩
     have m:i<p.length:=by have:=(KA.mp x).1;rwa [am]at this
     rw[br m]at x;cases x;have C:=z.2 _ (KM m);ext;refine⟨by rw[aC];exact az ⋯,?_,m⟩;rw[xm ⋯,q0E,Kz m,KQ];exact(cF _ _).symm
    ·rintro b σ H2 ⟨rfl,rfl,_⟩ u e
     rw[am,Lf];refine⟨az ⋯,λt k=>?_⟩;have G:g≠u:=aK h1 e;have d:∀o,aD H2 (aE H2 u o):=λo=>ao e;refine q t g u _ ?_ j (sm.free e) G af ?_ ?_ ((sm.trans (d _)).trans (ao k))
     ·exact sm.free ((d _).free k)
     ·exact(ao k) _ _ ((d _) _ _ h1)
     ·exact(ao k) _ _ af
  |false=>
   rw[q06 (by decide)]at D ⊢;refine⟨_,B,λg j=>?_⟩;rw[ED (by rw[z.1];exact D)];have sm:aD H (aE H g (HO.lst (au (p.take n)))):=ao j;have h1:aE H g (HO.lst (au (p.take n))) g=some (HO.lst (au (p.take n))):=af;generalize aE H g (HO.lst (au (p.take n)))=H1 at sm h1 ⊢;refine⟨_,sm.seq B,λu e=>⟨az ⋯,λt k=>?_⟩⟩;rw[AU (by rw[z.1];exact D)]at k ⊢;have G:g≠u:=aK h1 e;have d:∀o,aD H1 (aE H1 u o):=λo=>ao e;refine q t g u _ ?_ j (sm.free e) G af ?_ ?_ ((sm.trans (d _)).trans (ao k))
   ·exact sm.free ((d _).free k)
   ·exact(ao k) _ _ ((d _) _ _ h1)
   ·exact(ao k) _ _ af
abbrev wg:Stmt:=fS 21
inductive yk(vs:List V)(H:Hp)(Q:VK)(_E:XK):Prop
 |mk (t:Nat) (_:vs=[.int (t:Int)]) (_:t<8) (_:Q (.int (df t:Nat)) H)
theorem CO:aI ["t"] ["t"] (ax wg):=by walk_at "c"
theorem C'{f:Addr}(F:dw K "back" "back" wg f fd):↑bC 1 f fd ["t"] yk:=by
 have sc:=CO;walk_at "f"
 ·obtain⟨t,rfl,ht,q⟩:=h
  refine⟨_,(ae (bX (aQ (bE.m0 qQ) (ar 0) aj (a_ _))
   (ai (aP (ay (bE.m1 aZ) (ay (bE.m0 iX) aj (ar 0)) aj)))
   bj)
   (ai (aP (ar 0)))),?_⟩
  ext
  split
  ·have e:((df t:Nat):Int)=(4-(t:Int))%4:=by unfold df;rw[q07 ⋯];omega
   rw[<- e];exact q
  ·have e:((df t:Nat):Int)=(t:Int):=by unfold df;rw[q06 ⋯]
   rw[<- e];exact q
abbrev gW:Stmt:=fS 9
def cj(H:Hp):List Addr->List Wn->Prop
 | [],[]=>True
 |b::bs,x::xs=>H b=some (.tup (x.map V.int))/\cj H bs xs
 |_,_=>False
theorem cj.same(sm:aD H H'):∀{bs:LD} {xs:List Wn},cj H bs xs->cj H' bs xs
 | [],[],_=>trivial
 |_::_,_::_,h=>⟨sm _ _ h.1,cj.same sm h.2⟩
 | [],_::_,h=>h.elim
 |_::_,[],h=>h.elim
theorem cj.snoc{H:Hp}{x:Wn}(hb:H b=some (.tup (x.map V.int))):∀{bs:LD} {xs:List Wn},cj H bs xs->cj H (bs++[b]) (xs++[x])
 | [],[],_=>⟨hb,trivial⟩
 |_::_,_::_,h=>⟨h.1,cj.snoc hb h.2⟩
 | [],_::_,h=>h.elim
 |_::_,[],h=>h.elim
theorem cj.get:∀{bs:LD} {xs:List Wn} {i:Nat} {b:Addr},cj H bs xs->bs[i]?=some b->∃x,xs[i]?=some x/\H b=some (.tup (x.map V.int))
 | [],_,_,_,_,e=>by simp at e
 |c::bs,x::xs,0,b,h,e=>by simp at e;subst e;exact⟨x,rfl,h.1⟩
 |c::bs,x::xs,i+1,b,h,e=>by
  obtain⟨y,h1,h2⟩:=cj.get (i:=i) h.2 (by simpa using e);exact⟨y,by simpa using h1,h2⟩
 |_::_,[],_,_,h,_=>h.elim
theorem cj.length:∀{bs:LD} {xs:List Wn},cj H bs xs->bs.length=xs.length
 | [],[],_=>rfl
 |_::_,_::_,h=>by simp[cj.length h.2]
 | [],_::_,h=>h.elim
 |_::_,[],h=>h.elim
inductive jC(vs:List V)(H:Hp)(Q:VK)(_E:XK):Prop
 |mk (r c:Nat) (_:vs=[.int (r:Int),.int (c:Int)]) (_:r<=8) (_:c<=8) (_:∀(l:Addr) (bs:LD) (H':Hp),H l=none->H' l=some (.lst (bs.map V.ref))->cj H' bs (jO r c)->aD H H'->Q (.ref l) H')
theorem pT:aI ["rows","columns","windows","top","left","bottom","right"] ["rows","columns"] (ax gW):=by walk_at "c"
structure gQ(H H':Hp)(l:Addr)(xs:List Wn)(n:Nat):Prop where
 ex:∃bs:List Addr,H' l=some (.lst (bs.map V.ref))/\cj H' bs xs/\bs.length<=n
 sm:aD H H'
theorem gQ.more{m:Nat}(h:gQ H H' l xs n)(hm:n<=m):gQ H H' l xs m:=
 ⟨let ⟨bs,h1,h2,h3⟩:=h.ex;⟨bs,h1,h2,K' h3 hm⟩,h.sm⟩
theorem gQ.snoc{H H':Hp}{x:Wn}{n:Nat}{bs:LD}(hl:H l=none)(h1:H' l=some (.lst (bs.map V.ref)))(h2:cj H' bs xs)(h3:bs.length<=n)(sm:aD H H')(hp:H' p=none) :
  gQ H (aE (aE H' p (.tup (x.map V.int))) l (.lst (bs.map V.ref++[V.ref p]))) l (xs++[x]) (n+1):=by
 have d:p≠l:=λe=>by rw[e,h1]at hp;cases hp
 refine⟨⟨bs++[p],?_,?_,by rw[K3,q0Z];omega⟩,bz (bz sm (sm.free hp)) hl⟩
 ·rw[af,KQ];rfl
 ·refine cj.snoc (by rw[av d,af]) ?_
  -- no tuple is the list
  have i:∀{b:LD} {a:List Wn},cj H' b a->cj (aE (aE H' p (.tup (x.map V.int))) l (.lst (bs.map V.ref++[V.ref p]))) b a:=by
   intro b
   induction b with
   |nil=>intro a h;cases a with
    |nil=>trivial
    |cons _ _=>exact h.elim
   |cons c b ih=>
    intro a h;cases a with
    |nil=>exact h.elim
    |cons y a=>
     have g:c≠l:=oV h.1 h1 (by intro z;cases z);exact⟨by rw[av g,av (aK h.1 hp)];exact h.1,ih h.2⟩
  exact i h2
theorem pZ{f:Addr}(F:dw K "windows_of" "windows_of" gW f fd)(nb:NB mg):↑bC 1 f fd ["rows","columns"] jC:=by
 have sc:=pT;walk_at "f"
 ·obtain⟨r,c,rfl,hr1,hc1,q⟩:=h
  refine⟨_,(ae (q01 2 sc.nd (bw ad))
   (ae (aS PassesOwn.never rfl (bL rfl nb.range (ac (ar 0) ad)) (q02 3 sc.nd)
   (ai (aS PassesOwn.never rfl (bL rfl nb.range (ac (ar 1) ad)) (q02 4 sc.nd)
   (ai (aS PassesOwn.never rfl (d_ rfl nb.range (ac (ay (bE.m0 bK) (ar 3) aj) (ac (ay (bE.m0 bK) (ar 0) aj) ad))) (q02 5 sc.nd)
   (ai (aS PassesOwn.never rfl (d_ rfl nb.range (ac (ay (bE.m0 bK) (ar 4) aj) (ac (ay (bE.m0 bK) (ar 1) aj) ad))) (q02 6 sc.nd)
   (ai (bg (q03 (ar 2) (ac (bO (ac (ar 3) (ac (ar 4) (ac (ar 5) (ac (ar 6) ad))))) ad)))))))))))
   (ai (aP (ar 2))))),?_⟩
  ext;refine⟨az ⋯,λl x=>⟨⋯,⋯,?_⟩⟩;rw[KN];refine bv (lo:=0) (n:=r) (λt σ H1=>t<=r/\gQ H H1 l (W1 r c t) (t*1000)/\∃j g d b,σ=[some (V.int r),some (V.int c),some (V.ref l),j,g,d,b])
   ⟨K5 _,⟨⟨[],af,trivial,K5 _⟩,ao x⟩,_,_,_,_,rfl⟩ ?_ ?_
  ·rintro t σ H1 G ⟨_,D,j,g,d,b,rfl⟩
   ext;refine⟨⋯,⋯,?_⟩;rw[KN];refine bv (lo:=0) (n:=c) (λa σ H2=>a<=c/\gQ H H2 l (W1 r c t++W2 r c t a) (t*1000+a*100)/\∃g d b,σ=[some (V.int r),some (V.int c),some (V.ref l),some (V.int t),g,d,b])
    ⟨K5 _,by show gQ H H1 l (W1 r c t++[]) _;rw[Lc];exact D.more ⋯,_,_,_,rfl⟩ ?_ ?_
   ·rintro a σ H2 v ⟨_,u,g,d,b,rfl⟩
    ext;refine⟨⋯,⋯,⋯,⋯,?_⟩;rw[show((r:Int)+1-((t:Int)+1)).toNat=r-t by omega];refine bv (lo:=(t:Int)+1) (n:=r-t) (λbt σ i=>bt<=r-t/\gQ H i l (W1 r c t++W2 r c t a++W3 c t a bt) (t*1000+a*100+bt*10)/\∃d b,σ=[some (V.int r),some (V.int c),some (V.ref l),some (V.int t),some (V.int a),d,b])
     ⟨K5 _,by show gQ H H2 l (W1 r c t++W2 r c t a++[]) _;rw[Lc];exact u.more ⋯,_,_,rfl⟩ ?_ ?_
    ·rintro bt σ i y ⟨_,o,d,b,rfl⟩
     ext;refine⟨⋯,⋯,⋯,⋯,?_⟩;rw[show((c:Int)+1-((a:Int)+1)).toNat=c-a by omega];refine bv (lo:=(a:Int)+1) (n:=c-a) (λk σ z=>k<=c-a/\gQ H z l (W1 r c t++W2 r c t a++W3 c t a bt++W4 t a (t+1+bt) k) (t*1000+a*100+bt*10+k)/\∃b,σ=[some (V.int r),some (V.int c),some (V.ref l),some (V.int t),some (V.int a),some (V.int ((t:Int)+1+bt)),b])
      ⟨K5 _,by show gQ H i l (W1 r c t++W2 r c t a++W3 c t a bt++[]) _;rw[Lc];exact o.more ⋯,_,rfl⟩ ?_ ?_
     ·rintro k σ z I ⟨_,m,b,rfl⟩
      obtain⟨⟨bs,h1,h2,C⟩,sm⟩:=m;ext;refine⟨.inl ⟨rfl,_,aN.of h1⟩,az ⋯,λp B=>⟨_,by rw[av (aK h1 B)];exact h1,?_,I,?_⟩⟩
      ·rw[KD];exact aR ⋯
      ·rw[DW,<- Ld]
       have e:[V.int (t:Int),V.int (a:Int),V.int ((t:Int)+1+(bt:Int)),V.int ((a:Int)+1+(k:Int))]=(wn t a (t+1+bt) (a+1+k)).map V.int:=by unfold wn;simp
       rw[e];exact gQ.snoc x h1 h2 C sm B
     ·rintro σ z ⟨_,m,b,rfl⟩
      refine⟨y,?_,_,_,rfl⟩;rw[Dc,<- Ld];exact m.more ⋯
    ·rintro σ i ⟨_,o,d,b,rfl⟩
     refine⟨v,?_,_,_,_,rfl⟩;rw[Dl,<- Ld];exact o.more ⋯
   ·rintro σ H2 ⟨_,u,g,d,b,rfl⟩
    refine⟨G,?_,_,_,_,_,rfl⟩;rw[CP];exact u.more ⋯
  ·rintro σ H1 ⟨_,⟨⟨bs,h1,h2,C⟩,sm⟩,j,g,d,b,rfl⟩
   ext;exact q l bs H1 x h1 h2 sm
abbrev ld:Stmt:=fS 10
inductive Aw(K:W.Frag)(vs:List V)(H:Hp)(Q:VK)(_E:XK):Prop
 |mk (a tp:Addr) (p:aL) (r c t l b x:Nat) (_:vs=[.ref a,.ref tp]) (_:aN K H a (au p)) (_:dO K H tp ((wn t l b x).map V.int)) (_:rect p r c) (_:r<=64) (_:c<=64) (_:t<b) (_:b<=r) (_:l<x) (_:x<=c) (_:gL H (cut p t l b x) Q)
theorem wm:aI ["picture","window","top","left","bottom","right"] ["picture","window"] (ax ld):=by walk_at "c"
theorem Bh{row:LA}{l x:Nat}(h1:l<=x)(h2:x<=row.length):Txt.slice (tx row) (some (l:Int)) (some (x:Int))=tx ((row.drop l).take (x-l)):=by
 rw[fB,HT.sIx_nat,HT.sIx_nat,Lv (show l<=row.length by omega),Lv h2]
theorem BJ{p:aL}{t b:Nat}(h1:t<=b)(h2:b<=p.length):ju (au p) (some (t:Int)) (some (b:Int))=au ((p.drop t).take (b-t)):=by
 unfold ju;rw[HT.sIx_nat,HT.sIx_nat,am,Lv (show t<=p.length by omega),Lv h2];unfold au;rw[List.map_take,List.map_drop]
theorem xf{f:Addr}(F:dw K "cut_out" "cut_out" ld f fd)(nb:NB mg):↑bC 1 f fd ["picture","window"] (Aw K):=by
 have sc:=wm;walk_at "f"
 ·obtain⟨a,tp,p,r,c,t,l,b,x,rfl,L,o,G,hr1,hc1,h1,h2,h3,h4,q⟩:=h
  refine⟨_,(ae (q01 2 sc.nd (aY bV (ar 1) aj (λ_ _=>rfl)))
   (ae (aG (i:=3) sc.nd rfl (Or.inr rfl) (aY bV (ar 1) aj (λ_ _=>rfl)))
   (ae (q01 4 sc.nd (aY bV (ar 1) aj (λ_ _=>rfl)))
   (ae (aG (i:=5) sc.nd rfl (Or.inr rfl) (aY bV (ar 1) aj (λ_ _=>rfl)))
   (ai (aP (cq ["row"] [3,5] rfl (bP.of (by kernel_rfl)) (by kernel_rfl) (bG (cY jf (ar 0) (cS (ar 2)) (cS (ar 4))))
    (λ_ _ _ _=>(aw (i:=0) (by show(["row","left","right"]:List Str).Nodup;decide +kernel) rfl (Or.inl rfl))) (λ_ _ _ _=>b9) (λ_ _ _ _=>(cY lG (ar 0) (cS (ar 1)) (cS (ar 2))))))))))),?_⟩
  ext;refine⟨_,o,V.int t,bI (j:=0) rfl,_,o,V.int l,bI (j:=1) rfl,_,o,V.int b,bI (j:=2) rfl,_,o,V.int x,bI (j:=3) rfl,_,rfl,_,rfl,_,L,λC z=>⟨⟨_,aN.of af⟩,?_⟩⟩;rw[BJ ⋯ (by rw[G.1];omega)];have D:∀row∈(p.drop t).take (b-t),row.length=c:=λrow e=>G.2 row (q0I (q0H e));have k:((p.drop t).take (b-t)).length<=64:=by rw[Lg];omega
  generalize B:(p.drop t).take (b-t)=q0 at D k ⊢;have sm:aD H (aE H C (HO.lst (au q0))):=ao z;refine eC (xs:=au q0) (λi d σ g=>g=aE H C (HO.lst (au q0))/\d=au ((q0.take i).map λrow=>(row.drop l).take (x-l))/\i<=q0.length/\∃y,σ=[y,some (V.int l),some (V.int x)]) ⟨rfl,rfl,K5 _,_,rfl⟩ ?_ ?_ ?_ ?_ ?_
  ·rintro i d σ g ⟨_,rfl,J,_⟩
   rw[am,KD,Lg];exact aR ⋯
  ·rintro i d σ g ⟨_,_,h,_⟩
   rw[am];exact h
  ·rintro i d σ g ⟨rfl,_⟩
   exact aN.of af
  ·rintro i v d σ g u ⟨rfl,rfl,J,y,rfl⟩
   have n:i<q0.length:=by have:=(KA.mp u).1;rwa [am]at this
   rw[br n]at u;cases u;have e:=D _ (KM n);ext;refine⟨by rw[aC];exact az ⋯,?_,n⟩;rw[Bh ⋯ ⋯,q0E,Kz n,KQ];exact(cF _ _).symm
  ·rintro d σ g ⟨rfl,rfl,_⟩ I m
   rw[am,Lf];refine q I _ (sm.free m) ?_ (sm.trans (ao m));rw[af];unfold cut;rw[B]
abbrev dW:Stmt:=fS 23
def xY(ss:LI):Prop:=ss≠[]/\(ss.headD ⟨#[]⟩).length<=64
inductive dJ(K:W.Frag)(vs:List V)(H:Hp)(Q:VK)(_E:XK):Prop
 |mk (a:Addr) (ss:LI) (_:vs=[.ref a]) (_:aN K H a (ss.map V.str)) (_:xY ss) (_:∀t,H t=none->Q (.ref t) (aE H t (.tup [.int (gt ss),.ref a])))
theorem jM:aI ["picture"] ["picture"] (ax dW):=by walk_at "c"
theorem dH(K:W.Frag):∀l ss H Q E,aN K H l (ss.map V.str)->xY ss->(∀t,H t=none->Q (.ref t) (aE H t (.tup [.int (gt ss),.ref l])))->dJ K [.ref l] H Q E:=λl ss H Q E h1 h2 h3=>⟨l,ss,rfl,h1,h2,h3⟩
theorem jW{f:Addr}(F:dw K "cells_then_rows" "cells_then_rows" dW f fd)(nb:NB mg):↑bC 1 f fd ["picture"] (dJ K):=by
 have sc:=jM;walk_at "f"
 ·obtain⟨a,c,rfl,b,e,q⟩:=h
  refine⟨_,(ai (aP (bO (ac (ay (bE.m1 eD) (aB aU rfl nb.len aX (ac (ar 0) ad)) (aB bi rfl nb.len aX (ac (aY bd (ar 0) aj (λ_ _=>rfl)) ad))) (ac (ar 0) ad))))),?_⟩;ext;obtain⟨g,h1⟩:=e;obtain⟨z,c,rfl⟩:=List.exists_cons_of_ne_nil g;have h2:z.length<=64:=h1;have h3:((z.length:Nat):Int)<=64:=by omega
  refine⟨_,b,_,b,_,bI (j:=0) rfl,z,rfl,az ⋯,.inr ⟨⋯,⋯⟩,az ⋯,λp d=>?_⟩;have:=q p d;unfold gt at this;rw[KD];exact this
abbrev lA:Stmt:=fS 22
inductive pF(K:W.Frag)(vs:List V)(H:Hp)(Q:VK)(_E:XK):Prop
 |mk (a:Addr) (p:aL) (r c:Nat) (_:vs=[.ref a]) (_:aN K H a (au p)) (_:rect p r c) (_:0<r) (_:0<c) (_:r<=6) (_:c<=6) (_:bQ p) (_:∀(H':Hp) (l:Addr) (zs:List AP),aD H H'->H l=none->H' l=some (.lst (zs.map λz=>V.ref z.1))->(∀z∈zs,H z.1=none/\H' z.1=some (.lst (au z.2)))->(zs.map (·.1)).Nodup->FO p r c (zs.map (·.2))->zs.length<=8000->Q (.ref l) H')
theorem cj.dict{H:Hp}(hd:H d=some (.dK kvs)):∀{bs:LD} {xs:List Wn},cj H bs xs->cj (aE H d o) bs xs
 | [],[],_=>trivial
 |_::_,_::_,h=>⟨by rw[av (oV h.1 hd (by intro e;cases e))];exact h.1,cj.dict hd h.2⟩
 | [],_::_,h=>h.elim
 |_::_,[],h=>h.elim
theorem wX:aI ["picture","found","window","part","t","seen"] ["picture"] (ax lA):=by walk_at "c"
theorem wU{f:Addr}(F:dw K "seen_in" "seen_in" lA f fd)(nb:NB mg){tkT:Tok}(yai:mg "TURNINGS"=some (.int 8 tkT))(yav:↑dP 1 "windows_of" ["rows","columns"] jC)(yaO:↑dP 1 "cut_out" ["picture","window"] (Aw K))(zla:↑dP 3 "turned" ["picture","t"] (i7 K))(yab:↑dP 1 "shown" ["picture"] (gD K))(yaH:↑dP 1 "cells_then_rows" ["picture"] (dJ K)):↑bC 4 f fd ["picture"] (pF K):=by
 have sc:=wX;have dH:=dH K;walk_at "f"
 ·obtain⟨a,p,r,c,rfl,hS,hp,a9,d2,c4,d1,c5,q⟩:=h
  have hu:=hr.units;refine⟨_,(ae (q01 1 sc.nd nN)
   (ae (aS PassesOwn.never rfl (bG (q00 yav hr (ac (aB aU rfl nb.len aX (ac (ar 0) ad)) (ac (aB bi rfl nb.len aX (ac (aY bd (ar 0) aj (λ_ _=>rfl)) ad)) ad)))) (q02 2 sc.nd)
   (ae (q01 3 sc.nd (q00 yaO hr (ac (ar 0) (ac (ar 2) ad))))
   (ai (aS PassesOwn.never rfl (bL rfl nb.range (ac (du (v:=.int 8) rfl yai ⟨_,rfl⟩) ad)) (q02 4 sc.nd)
   (ae (q01 5 sc.nd (q00 zla hr (ac (ar 3) (ac (ar 4) ad))))
   (ai (kt (Lk (Lo (by decide:1<=64) _) hu) (ar 1) (q00 yab hr (ac (ar 5) ad)) (ar 5) rfl)))))))
   (ai (aP (zN (hr.mono (by decide)) rfl rfl nb.sorted yaH rfl dH (ac (Bs (ar 1) rfl rfl) ad)))))),?_⟩
  ext;intro d hd;have a0:aD H (aE H d (HO.dK [])):=ao hd;obtain⟨c6,L⟩:=dA hp a9;refine⟨_,a0.seq hS,_,a0.seq hS,_,bI (j:=0) (br c6),_,rfl,by rw[aC,L];exact az ⋯,?_⟩;rw[am,hp.1,aC,L];refine⟨r,c,rfl,⋯,⋯,λwl bs H1 hwl J a8 a4=>?_⟩;have a1:=DJ a9 c4 d2 d1;have hlen:(jO r c).length<=1000:=by unfold check at a1;simp only[q0O,q0b]at a1;exact a1.2
  have d4:=a8.length;have a5:=a0.trans a4;refine⟨_,rfl,⟨_,aN.of J⟩,?_⟩
  -- the windows
  refine bW (xs:=bs.map V.ref) (λi σ H2=>i<=bs.length/\(∃R,dG H H2 d (λx=>∃j,j<i/\∃u,u<8/\x=turned (DU p ((jO r c).getD j [])) u) R (8*i))/\H2 wl=some (.lst (bs.map V.ref))/\cj H2 bs (jO r c)/\∃x2 x3 U T,σ=[some (V.ref a),some (V.ref d),x2,x3,U,T]) ?_ ?_ ?_ ?_
  ·refine⟨K5 _,⟨[],?_⟩,J,a8,_,_,_,_,rfl⟩
   exact⟨by rw[a4 _ _ af];rfl,a5,hd,(λz hz=>nomatch hz),List.nodup_nil,List.nodup_nil,λx=>by simp,K5 _⟩
  ·rintro i σ H2 _ ⟨_,_,h,_⟩
   exact aN.of h
  ·rintro i x σ H2 hx ⟨_,⟨R,S⟩,a2,C,x2,x3,U,T,rfl⟩
   rw[KG]at hx;cases G:bs[i]? with
   |none=>rw[G]at hx;cases hx
   |some bt=>
    rw[G]at hx;cases hx
    have hi:i<bs.length:=(KA.mp G).1;obtain⟨w0,a7,b4⟩:=C.get G;obtain⟨t,l,b,x,rfl,h1,h2,h3,h4⟩:=oI.mp (KH a7);ext;refine⟨a,bt,p,r,c,t,l,b,x,rfl,S.sm.seq hS,dO.of b4,hp,⋯,⋯,h1,h2,h3,h4,λpl H3 b1 b0 Z=>⟨⋯,?_⟩⟩;have b3:=cI hp h1 h2 h3 h4;have S3:=S.same Z;have b6:=Z _ _ a2;have c2:=C.same Z;have hpl0:=S.sm.free b1;clear S b1 a2 C b4;have eW:(jO r c).getD i []=wn t l b x:=by rw[q0A,a7];rfl
    have e8:Int.toNat 8=8:=rfl;rw[e8];refine bv (lo:=0) (n:=8) (λu σ H4=>(∃R,dG H H4 d (λy=>(∃j,j<i/\∃u,u<8/\y=turned (DU p ((jO r c).getD j [])) u)\/∃k,k<u/\y=turned (cut p t l b x) k) R (8*i+u))/\H4 pl=some (.lst (au (cut p t l b x)))/\H4 wl=some (.lst (bs.map V.ref))/\cj H4 bs (jO r c)/\∃U T,σ=[some (V.ref a),some (V.ref d),some (V.ref bt),some (V.ref pl),U,T]) ?_ ?_ ?_
    ·exact⟨⟨R,S3.congr λy=>⟨.inl,λz=>z.elim id λ⟨k,c1,_⟩=>q0Q c1 (Nat.not_lt_zero _)⟩⟩,b0,b6,c2,_,_,rfl⟩
    ·rintro u σ H4 c0 ⟨⟨o,O⟩,D,B,a3,U,T,rfl⟩
     ext;refine⟨pl,cut p t l b x,b-t,x-l,u,by simp,aN.of D,b3,⋯,⋯,⋯,⋯,c0,λbq H5 d3 M m=>?_⟩;obtain⟨o1,o2,r',c',o3,o4,o5,o6,o7⟩:=tN (u:=u) hp c5 h1 h2 h3 h4;have c3:dl (turned (cut p t l b x) u):=dl.of o3 ⋯ ⋯;have c9:((turned (cut p t l b x) u).headD []).length<=64:=by rw[bf o3 o4];omega
     obtain⟨e1,S5⟩:=O.step m d3 M o1 o2 c9;refine⟨bq,turned (cut p t l b x) u,rfl,M,c3,aE H5 d (.dK ((kx o (bq,turned (cut p t l b x) u)).map eU)),.inl ⟨o.map eU,_,m _ _ O.tbl,rfl,by rw[KD];exact aR (by have:=O.len;omega),by rw[e1]⟩,⟨_,S5.congr λy=>?_⟩,?_,?_,(a3.same m).dict (m _ _ O.tbl)⟩
     ·constructor
      ·rintro((z | ⟨k,I,g⟩) | z)
       ·exact .inl z
       ·exact .inr ⟨k,⋯,g⟩
       ·exact .inr ⟨u,⋯,z⟩
      ·rintro(z | ⟨k,I,g⟩)
       ·exact .inl (.inl z)
       ·by_cases hq:k=u
        ·exact .inr (by rw[g,hq])
        ·exact .inl (.inr ⟨k,⋯,g⟩)
     ·rw[av (oV D O.tbl (by intro e;cases e))];exact m _ _ D
     ·rw[av (oV B O.tbl (by intro e;cases e))];exact m _ _ B
    ·rintro σ H4 ⟨⟨o,O⟩,D,B,a3,U,T,rfl⟩
     refine⟨hi,⟨o,O.congr λy=>?_⟩,B,a3,_,_,_,_,rfl⟩
     constructor
     ·rintro(⟨j,I,g⟩ | ⟨k,I,g⟩)
      ·exact⟨j,⋯,g⟩
      ·exact⟨i,⋯,k,I,by rw[eW,mT];exact g⟩
     ·rintro⟨j,I,k,g,z3⟩
      by_cases hq:j=i
      ·rw[hq,eW,mT]at z3
       exact .inr ⟨k,g,z3⟩
      ·exact .inl ⟨j,⋯,k,g,z3⟩
  ·rintro σ H2 ⟨_,⟨R,S⟩,a2,C,x2,x3,U,T,rfl⟩
   ext;refine⟨_,S.tbl,λv hv=>⟨d,af,R.map EK,?_,?_,?_⟩⟩
   ·rw[av (aK S.tbl hv),S.tbl,KS];rfl
   ·intro e he
    obtain⟨z,hz,rfl⟩:=Lm.mp he;obtain⟨I,g,z3,z4,z5⟩:=S.each z hz;refine⟨?_,?_,?_⟩
    ·refine aN.of ?_
     show aE H2 v (vj v d) z.1=some (.lst ((z.2.map tx).map V.str));rw[av (aK g hv),g,d8]
    ·show z.2.map tx≠[]
     exact λe=>z3 (List.map_eq_nil_iff.mp e)
    ·show((z.2.map tx).headD ⟨#[]⟩).length<=64
     rw[xO];exact z5
   ·intro es pe se H' l' a6 c7 b2
    obtain⟨ws,pw,rfl⟩:=u0 pe _ rfl;have Y:aD H2 (aE H2 v (vj v d)):=ao hv;refine q H' l' ws (S.sm.trans (Y.trans a6)) (S.sm.free (Y.free c7)) ?_ ?_ ?_ ?_ (by have h1:=S.len;have h2:=pw.length_eq;rw[KD]at h1;omega)
    ·rw[b2,KS];rfl
    ·intro z hz
     obtain⟨I,g,_⟩:=S.each z (pw.mem_iff.mp hz);exact⟨I,a6 _ _ (Y _ _ g)⟩
    ·exact(pw.map _).nodup_iff.mpr S.nda
    ·refine⟨λy=>?_,yr se ((pw.map _).nodup_iff.mpr S.ndp)⟩
     rw[(pw.map _).mem_iff,S.mem,zf,KD,d4]
abbrev Ky:=List Nat×List Nat
def wx(k:Ky):List V:=[.str (tx k.1),.str (tx k.2)]
def gM(k:Ky):List cL:=[.inr (tx k.1),.inr (tx k.2)]
theorem tx_inj(h:tx a=tx b):a=b:=by
 have e:(tx a).cps.toList=(tx b).cps.toList:=by rw[h]
 rwa [cX,cX]at e
theorem uT(h:gM a=gM b):a=b:=by
 obtain⟨a1,a2⟩:=a;obtain⟨b1,b2⟩:=b;unfold gM at h;simp only[List.cons.injEq,Sum.inr.injEq,and_true]at h;rw[tx_inj h.1,tx_inj h.2]
def bD(H:Hp)(a:Addr)(k:Ky):Prop:=H a=some (.tup (wx k))
theorem bD.up(h:bD H a k)(s:aD H H'):bD H' a k:=s _ _ h
theorem bD.put(h:bD H a k)(hl:H l=some (.lst xs)):bD (aE H l o) a k:=by
 have b:H a=some (.tup (wx k)):=h;show aE H l o a=_;rw[av (λz=>by rw[z,hl]at b;cases b)];exact b
abbrev bu(p:aL):List Nat:=SpM.glue 47 p
theorem xI{β:Type}{A:Hp->Addr->β->Prop}(u:∀{H H':Hp} {b:Addr} {y:β},A H b y->aD H H'->A H' b y){H H':Hp}{l:Addr}{ys:List β}(h:jH A H l ys)(s:aD H H'):jH A H' l ys:=by
 obtain⟨bs,h1,h2⟩:=h;exact⟨bs,s _ _ h1,h2.mono λb y _ _ q=>u q s⟩
abbrev iz:Hp->Addr->List Ky->Prop:=jH bD
theorem ib(h:iz H b y)(s:aD H H'):iz H' b y:=xI (A:=bD) bD.up h s
def bU(sb:Bool)(p:aL)(m:Nat):List Ky:=(List.range (m-1)).map λj=>(bu (qT sb p (j+1)),bu (li sb p (j+1)))
def eZ(CC:Addr)(H:Hp)(c:Addr)(p:aL):Prop:=∃dx lp lb la,H c=some (.ins CC dx [("picture",.ref lp),("text",.str (tx (bu p))),("beside_texts",.ref lb),("above_texts",.ref la)])/\H lp=some (.lst (au p))/\jH bD H lb (bU true p (p.headD []).length)/\jH bD H la (bU false p p.length)
theorem eZ.up(h:eZ CC H c p)(s:aD H H'):eZ CC H' c p:=by
 obtain⟨i,a,b,d,h1,h2,g,e⟩:=h;exact⟨i,a,b,d,s _ _ h1,s _ _ h2,xI (A:=bD) bD.up g s,xI (A:=bD) bD.up e s⟩
def bR(r:Nat×RV)(p:aL):List (List Ky):=match r.1 with
 |0=>if bu p=r.2.sg then[[]] else[]
 |1=>(bU true p (p.headD []).length).map λk=>[(k.1,r.2.o1),(k.2,r.2.o2)]
 |2=>(bU false p p.length).map λk=>[(k.1,r.2.o1),(k.2,r.2.o2)]
 |_=>[[(bu (turned p (df r.2.t.toNat)),r.2.o1)]]
def bS(T:Ky->Option Int):Int->List Ky->Option Int
 |c,[]=>some c
 |c,k::ks=>match T k with
  |none=>none
  |some v=>bS T (c+v) ks
def iR(H:Hp)(d:Addr)(T:Ky->Option Int):Prop:=∃kvs,H d=some (.dT kvs)/\∀k,dL kvs (gM k)=(T k).map V.int
theorem iR.up(h:iR H d T)(s:aD H H'):iR H' d T:=let ⟨kvs,h1,h2⟩:=h;⟨kvs,s _ _ h1,h2⟩
theorem iR.get(h:iR H d T)(hb:bD H b k):jr H d (.ref b) ((T k).map V.int):=by
 obtain⟨kvs,h1,h2⟩:=h;rw[<- h2 k];exact jr.t h1 hb
structure iF(p:aL)(r c:Nat):Prop where
 rc:rect p r c
 r0:0<r
 r6:r<=6
 c0:0<c
 c6:c<=6
theorem iF.small(h:iF p r c):dl p:=dl.of h.rc (by have:=h.r6;omega) (by have:=h.c6;omega)
theorem tG{ks:List Ky}{fs:List (Str×V)}(h:jH bD H l ks)(ha:H a=some (.ins C dx fs)):jH bD (aE H a o) l ks:=by
 obtain⟨bs,h1,h2⟩:=h;exact⟨bs,by rw[av (λz=>by rw[z,ha]at h1;cases h1)];exact h1,h2.mono λb y _ _ q=>by
  have c:H b=some (.tup (wx y)):=q;show aE H a o b=_;rw[av (λz=>by rw[z,ha]at c;cases c)];exact c⟩
theorem cD{c:Prop}[Decidable c]{A B:Prop}(hA:c->A)(hB:¬ c->B):if c then A else B:=by
 by_cases h:c
 ·rw[q07 h];exact hA h
 ·rw[q06 h];exact hB h
abbrev fM:Stmt:=fS 26
inductive ir(K:W.Frag)(vs:List V)(H:Hp)(Q:VK)(_E:XK):Prop
 |mk (sb:Bool) (a:Addr) (p:aL) (r c m:Nat) (_:vs=[.ref a,.bl sb,.int (m:Int)]) (_:aN K H a (au p)) (_:iF p r c) (_:m=(if sb=true then c else r)) (_:∀l H',H l=none->jH bD H' l (bU sb p m)->aD H H'->Q (.ref l) H')
theorem mJ:aI ["picture","side_by_side","many","texts","at","two"] ["picture","side_by_side","many"] (ax fM):=by walk_at "c"
theorem rL{sb:Bool}(h:iF p r c):dl (qT sb p n)/\dl (li sb p n):=by
 have:=h.small;cases sb with
 |true=>
  refine⟨⟨?_,λx a=>?_⟩,⟨?_,λx a=>?_⟩⟩
  ·show(p.map _).length<=_;rw[KD];exact this.1
  ·obtain⟨y,b,rfl⟩:=Lm.mp a
   rw[Lg];exact K' (Nat.min_le_right _ _) (this.2 y b)
  ·show(p.map _).length<=_;rw[KD];exact this.1
  ·obtain⟨y,b,rfl⟩:=Lm.mp a
   rw[Lh];exact K' (Nat.sub_le _ _) (this.2 y b)
 |false=>
  refine⟨⟨?_,λx a=>?_⟩,⟨?_,λx a=>?_⟩⟩
  ·show(p.take n).length<=_;rw[Lg];exact K' (Nat.min_le_right _ _) this.1
  ·exact this.2 x (q0H a)
  ·show(p.drop n).length<=_;rw[Lh];exact K' (Nat.sub_le _ _) this.1
  ·exact this.2 x (q0I a)
theorem mG{f:Addr}(F:dw K "parted_texts" "parted_texts" fM f fd)(nb:NB mg)(yan:↑dP 1 "parted" ["picture","side_by_side","at"] (qX K))(yab:↑dP 1 "shown" ["picture"] (gD K)):↑bC 2 f fd ["picture","side_by_side","many"] (ir K):=by
 have sc:=mJ;walk_at "f"
 ·obtain⟨sb,a,p,r,c,m,rfl,Y,e,R,q⟩:=h
  have:=e.r6;have:=e.c6;have:=e.r0;have:=e.c0;have m1:1<=m/\m<=6:=by rw[R];split<;>omega
  refine⟨_,(ae (q01 3 sc.nd (bw ad))
   (ae (aS PassesOwn.never rfl (d_ rfl nb.range (cy (ac (ar 2) ad))) (q02 4 sc.nd)
   (ae (q01 5 sc.nd (q00 yan hr (ac (ar 0) (ac (ar 1) (ac (ar 4) ad)))))
   (ai (bg (q03 (ar 3) (ac (bO (ac (q00 yab hr (ac (aY bV (ar 5) aj (λ_ _=>rfl)) ad)) (ac (q00 yab hr (ac (aY bV (ar 5) aj (λ_ _=>rfl)) ad)) ad))) ad))))))
   (ai (aP (ar 3))))),?_⟩
  symm;refine⟨K5 _,λl I=>h1 _ _ ?_⟩;clear h1;generalize u:aE H l _=H1;obtain⟨S,Z⟩:=dN I u;symm;rw[show((m:Int)-1).toNat=m-1 by omega];refine⟨by decide,⋯,⋯,?_⟩;refine bv (lo:=1) (n:=m-1) (λi σ g=>aD H g/\i<=m-1/\(∃bs:List Addr,g l=some (.lst (bs.map V.ref))/\aW bD g bs ((List.range i).map λj=>(bu (qT sb p (j+1)),bu (li sb p (j+1)))))/\∃x y,σ=[some (V.ref a),some (V.bl sb),some (V.int (m:Int)),some (V.ref l),x,y]) ⟨S,K5 _,⟨[],Z,aW.nil⟩,_,_,rfl⟩ ?_ ?_
  ·rintro i σ g hi ⟨sm,_,⟨bs,L,o⟩,x,y,rfl⟩
   symm;refine⟨sb,a,p,r,c,i+1,by push_cast;rw[Int.add_comm],sm.seq Y,e.rc,⋯,⋯,by rw[<- R];omega,λt U T H2 ht hl1 hl2 hne et O M D=>h1 _ _ ?_⟩;clear h1;obtain⟨B,z⟩:=rL (sb:=sb) (n:=i+1) e;ext;have k:=D _ _ L;refine⟨.inl ⟨rfl,_,aN.of k⟩,_,dO.of et,_,rfl,U,qT sb p (i+1),rfl,O,B,_,dO.of et,_,rfl,T,li sb p (i+1),rfl,M,z,az (by decide),λv G=>?_⟩;generalize u:aE H2 v _=H3;obtain⟨C,(e3:bD H3 v (bu (qT sb p (i+1)),bu (li sb p (i+1))))⟩:=dN G u;have d:=C _ _ k;have J:=o.1;rw[KD,q0J]at J;refine⟨_,d,by rw[KD];exact aR ⋯,bz ((sm.trans D).trans C) I,⋯,bs++[v],by rw[af,KQ];rfl,?_⟩;rw[q0M,KQ];exact(o.mono λb y _ _ h=>((h.up D).up C).put d).snoc (e3.put d)
  ·rintro σ g ⟨sm,_,⟨bs,L,o⟩,x,y,rfl⟩
   refine h1 _ _ ?_;ext;exact q l g I ⟨bs,L,o⟩ sm
abbrev gl:Stmt:=jw 25 0
def D9(K:W.Frag)(C:Addr):Prop:=aJ K C "picture"/\aJ K C "text"/\aJ K C "beside_texts"/\aJ K C "above_texts"
inductive ik(K:W.Frag)(vs:List V)(H:Hp)(Q:VK)(_E:XK):Prop
 |mk (a C dx b:Addr) (p:aL) (r c:Nat) (_:vs=[.ref a,.ref b]) (_:H a=some (.ins C dx [])) (_:jF K C) (_:D9 K C) (_:H b=some (.lst (au p))) (_:iF p r c) (_:∀H',eZ C H' a p->bp a H H'->Q .non H')
theorem rV:aI ["self","picture"] ["self","picture"] (ax gl):=by walk_at "c"
theorem sF{f:Addr}(F:dw K "__init__" "Cuts.__init__" gl f fd)(nb:NB mg)(yab:↑dP 1 "shown" ["picture"] (gD K))(yal:↑dP 2 "parted_texts" ["picture","side_by_side","many"] (ir K)):↑bC 3 f fd ["self","picture"] (ik K):=by
 have sc:=rV;walk_at "f"
 ·obtain⟨a,C,d,b,p,r,c,rfl,R,G,⟨n1,n2,n3,n4⟩,n,i,q⟩:=h
  refine⟨_,(ae (c_ (ar 0) (cV cN rfl nb.list eF (ac (ar 1) ad)) rfl)
   (ae (c_ (ar 0) (q00 yab hr (ac (ar 1) ad)) rfl)
   (ae (c_ (ar 0) (q00 yal hr (ac (ar 1) (ac iA (ac (aB bi rfl nb.len aX (ac (aY bd (ar 1) aj (λ_ _=>rfl)) ad)) ad)))) rfl)
   (ai (c_ (ar 0) (q00 yal hr (ac (ar 1) (ac iA (ac (aB aU rfl nb.len aX (ac (ar 1) ad)) ad)))) rfl))))),?_⟩
  symm;refine⟨_,.inl (aN.of n),λl z=>⟨C,d,_,ao z _ _ R,G,n1,by decide,h1 _ _ ?_⟩⟩;clear h1;have j:l≠a:=λe=>by rw[e,R]at z;cases z
  have k:b≠a:=λe=>by rw[e,R]at n;cases n
  have L:bp a H (aE (aE H l (.lst (au p))) a (.ins C d [("picture",.ref l)])):=(bp.of (ao z)).put;have e1:aE (aE H l (.lst (au p))) a (.ins C d [("picture",.ref l)]) a=some (.ins C d [("picture",.ref l)]):=af;have l1:aE (aE H l (.lst (au p))) a (.ins C d [("picture",.ref l)]) l=some (.lst (au p)):=by rw[av j,af]
  change yx _ _ _ _ (aE (aE H l (.lst (au p))) a (.ins C d [("picture",.ref l)]));generalize aE (aE H l (.lst (au p))) a (.ins C d [("picture",.ref l)])=H1 at L e1 l1 ⊢;have b1:=L _ _ k n;have d1:¬ (("picture":Str)="text"):=by decide +kernel
  have d2:¬ (("picture":Str)="beside_texts"):=by decide +kernel
  have d3:¬ (("picture":Str)="above_texts"):=by decide +kernel
  have d4:¬ (("text":Str)="beside_texts"):=by decide +kernel
  have d5:¬ (("text":Str)="above_texts"):=by decide +kernel
  have d6:¬ (("beside_texts":Str)="above_texts"):=by decide +kernel
  have U:cQ "text" (V.str (tx (bu p))) [(("picture":Str),V.ref l)]=[(("picture":Str),V.ref l),(("text":Str),V.str (tx (bu p)))]:=by simp only[cQ,q06 d1]
  symm;refine⟨b,p,rfl,b1,i.small,C,d,_,e1,G,n2,by simp,?_⟩;rw[U];refine h1 _ _ ?_;clear h1;have J:bp a H (aE H1 a (.ins C d [("picture",.ref l),("text",.str (tx (bu p)))])):=L.put;have D:aE H1 a (.ins C d [("picture",.ref l),("text",.str (tx (bu p)))]) a=some (.ins C d [("picture",.ref l),("text",.str (tx (bu p)))]):=af;have Z:aE H1 a (.ins C d [("picture",.ref l),("text",.str (tx (bu p)))]) l=some (.lst (au p)):=by rw[av j];exact l1
  generalize aE H1 a (.ins C d [("picture",.ref l),("text",.str (tx (bu p)))])=H2 at J D Z ⊢;have b2:=J _ _ k n;have:=i.r6;have:=i.c6;obtain⟨O,o⟩:=dA i.rc i.r0;symm;refine⟨_,aN.of b2,_,(show iG _ ((0:Nat):Int)=_ from bI (br O)),_,rfl,by rw[aC];exact az ⋯,?_⟩;rw[aC,o];refine⟨true,b,p,r,c,c,rfl,aN.of b2,i,rfl,λg x u eb y=>⟨C,d,_,y _ _ D,G,n3,by simp,?_⟩⟩;have hbl:g≠a:=λe=>by rw[e,D]at u;cases u
  have T:cQ "beside_texts" (V.ref g) [(("picture":Str),V.ref l),(("text":Str),V.str (tx (bu p)))]=[(("picture":Str),V.ref l),(("text":Str),V.str (tx (bu p))),(("beside_texts":Str),V.ref g)]:=by simp only[cQ,q06 d2,q06 d4]
  rw[T];refine h1 _ _ ?_;clear h1;have I:bp a H (aE x a (.ins C d [("picture",.ref l),("text",.str (tx (bu p))),("beside_texts",.ref g)])):=(J.then y).put;have B:aE x a (.ins C d [("picture",.ref l),("text",.str (tx (bu p))),("beside_texts",.ref g)]) a=some (.ins C d [("picture",.ref l),("text",.str (tx (bu p))),("beside_texts",.ref g)]):=af;have Y:aE x a (.ins C d [("picture",.ref l),("text",.str (tx (bu p))),("beside_texts",.ref g)]) l=some (.lst (au p)):=by rw[av j];exact y _ _ Z
  have v:jH bD (aE x a (.ins C d [("picture",.ref l),("text",.str (tx (bu p))),("beside_texts",.ref g)])) g (bU true p c):=tG eb (y _ _ D);generalize aE x a (.ins C d [("picture",.ref l),("text",.str (tx (bu p))),("beside_texts",.ref g)])=H4 at I B Y v ⊢;have b3:=I _ _ k n;ext;refine⟨_,aN.of b3,?_⟩;rw[am,i.rc.1];refine⟨false,b,p,r,c,r,rfl,aN.of b3,i,rfl,λM H5 hla5 ea m=>⟨C,d,_,m _ _ B,G,n4,by simp,?_⟩⟩;have S:cQ "above_texts" (V.ref M) [(("picture":Str),V.ref l),(("text":Str),V.str (tx (bu p))),(("beside_texts":Str),V.ref g)]=[(("picture":Str),V.ref l),(("text":Str),V.str (tx (bu p))),(("beside_texts":Str),V.ref g),(("above_texts":Str),V.ref M)]:=by simp only[cQ,q06 d3,q06 d5,q06 d6]
  rw[S];refine q _ ⟨d,l,g,M,af,by rw[av j];exact m _ _ Y,?_,?_⟩ ((I.then m).put)
  ·rw[bf i.rc i.r0]
   exact tG (xI (A:=bD) bD.up v m) (m _ _ B)
  ·rw[i.rc.1]
   exact tG ea (m _ _ B)
abbrev eN:Stmt:=jw 25 1
inductive fL(CC:Addr)(vs:List V)(H:Hp)(Q:VK)(_E:XK):Prop
 |mk (a:Addr) (p:aL) (r c t:Nat) (_:vs=[.ref a,.int (t:Int)]) (_:eZ CC H a p) (_:iF p r c) (_:t<8) (_:∀H',aD H H'->Q (.str (tx (bu (turned p t)))) H')
theorem ou:aI ["self","t"] ["self","t"] (ax eN):=by walk_at "c"
theorem iF.turned(h:iF p r c)(t:Nat):∃r' c',iF (turned p t) r' c':=by
 have:=cO h.rc h.r0 h.c0 t;have h1:=h.r0;have h2:=h.c0;have h3:=h.r6;have h4:=h.c6;exact⟨_,_,this,by split<;>omega,by split<;>omega,by split<;>omega,by split<;>omega⟩
theorem pp{f:Addr}(F:dw K "turned_text" "Cuts.turned_text" eN f fd)(nb:NB mg)(cl:jF K CC)(na:D9 K CC)(zla:↑dP 3 "turned" ["picture","t"] (i7 K))(yab:↑dP 1 "shown" ["picture"] (gD K)):↑bC 4 f fd ["self","t"] (fL CC):=by
 have sc:=ou;walk_at "f"
 ·obtain⟨a,p,r,c,t,rfl,⟨n,g,lb,la,k,j,_,_⟩,b,i,q⟩:=h
  refine⟨_,(ai (aP (q00 yab hr (ac (q00 zla hr (ac (cK (ar 0) rfl) (ac (ar 1) ad))) ad)))),?_⟩;have:=b.r6;have:=b.c6;obtain⟨r',c',d⟩:=b.turned t;ext;refine⟨CC,n,_,k,cl,na.1,_,rfl,g,p,r,c,t,rfl,aN.of j,b.rc,b.r0,b.c0,⋯,⋯,i,λl H1 hl m e=>⟨l,turned p t,rfl,m,d.small,q H1 e⟩⟩
def lT(H0 H:Hp)(b:Addr)(y:List Ky):Prop:=H0 b=none/\iz H b y
theorem lT.up{H0:Hp}(h:lT H0 H b y)(s:aD H H'):lT H0 H' b y:=⟨h.1,ib h.2 s⟩
inductive dC(CC C:Addr)(t:Nat)(vs:List V)(H:Hp)(Q:VK)(_E:XK):Prop
 |mk (a dx lp cu:Addr) (v:RV) (p:aL) (r c:Nat) (_:vs=[.ref a,.ref cu]) (_:H a=some (.ins C dx (rU t lp v))) (_:eZ CC H cu p) (_:iF p r c) (_:0<=v.t) (_:v.t<=7) (_:∀l H',H l=none->jH (lT H) H' l (bR (t,v) p)->aD H H'->Q (.ref l) H')
abbrev gg:Stmt:=jw 36 4
theorem sv:aI ["self","cuts"] ["self","cuts"] (ax gg):=by walk_at "c"
theorem tV{f:Addr}(F:dw K "ways" "CellRule.ways" gg f fd)(cc:jF K CC)(nc:D9 K CC)(cl:jF K C)(na:aJ K C "sign"):↑bC 1 f fd ["self","cuts"] (dC CC C 0):=by
 have sc:=sv;walk_at "f"
 ·obtain⟨a,k,lp,cu,v,p,r,c,rfl,j,⟨l,b,l2,l3,i,_,_,_⟩,hp,t0,t7,q⟩:=h
  refine⟨_,(ai (aP (B1 (aQ dz (cK (ar 1) rfl) (cK (ar 0) rfl) (a_ _)) (bw (ac (bw ad) ad)) (bw ad)))),?_⟩;ext;refine⟨CC,l,_,i,cc,nc.2.1,_,rfl,C,k,_,j,cl,na,_,rfl,rfl,?_⟩;refine cD (λe=>?_) (λe=>?_)
  ·rw[show bR (0,v) p=[[]] from q07 (tx_inj (V.str.inj e))]at q
   exact⟨K5 _,λg d=>⟨az (by decide),λb h1=>q b _ ((ao d).free h1) ⟨[g],af,aW.one ⟨d,[],ao h1 _ _ af,aW.nil⟩⟩ ((ao d).trans (ao h1))⟩⟩
  ·rw[show bR (0,v) p=[] from q06 λh=>e (by rw[h])]at q
   exact⟨K5 _,λb h1=>q b _ h1 ⟨[],af,aW.nil⟩ (ao h1)⟩
abbrev eG:Stmt:=jw 37 4
theorem nZ:aI ["self","cuts"] ["self","cuts"] (ax eG):=by walk_at "c"
theorem oZ{f:Addr}(F:dw K "ways" "BesideRule.ways" eG f fd)(cc:jF K CC)(nc:D9 K CC)(cl:jF K C)(na:aJ K C "one"/\aJ K C "other"):↑bC 1 f fd ["self","cuts"] (dC CC C 1):=by
 have sc:=nZ;walk_at "f"
 ·obtain⟨a,U,lp,cu,v,p,r,c,rfl,ha,⟨dc,l1,l2,l3,hc,_,⟨bs,T,M⟩,_⟩,I,t0,t7,q⟩:=h
  have hu:=hr.units;refine⟨_,(ai (aP (cq ["first","second"] [0] rfl (bP.of (by kernel_rfl)) (by kernel_rfl) (bG (cK (ar 1) rfl))
    (λ_ _ _ _=>(m6 (K:=K) (n:=2) rfl rfl (bh (aw (i:=0) (by show(["first","second","self"]:List Str).Nodup;decide +kernel) rfl (Or.inl rfl)) (bh (aw (i:=1) (by show(["first","second","self"]:List Str).Nodup;decide +kernel) rfl (Or.inl rfl)) dD)))) (λ_ _ _ _=>b9) (λ_ _ _ _=>(bw (ac (bO (ac (ar 0) (ac (mZ (K:=K) rfl (ar 2) rfl) ad))) (ac (bO (ac (ar 1) (ac (mZ (K:=K) rfl (ar 2) rfl) ad))) ad))))))),?_⟩
  ext;refine⟨CC,dc,_,hc,cc,nc.2.2.1,_,rfl,_,rfl,⟨_,aN.of T⟩,?_⟩;have j:(bs.zip (bU true p (p.headD []).length)).length=(bR (1,v) p).length:=by
   show _=((bU true p (p.headD []).length).map _).length;rw[q0N,M.1,KD,Nat.min_self]
  have hpl:(bU true p (p.headD []).length).length<=6:=by
   unfold bU;rw[KD,q0J,bf I.rc I.r0];have:=I.c6;omega
  refine oS (lT H) lT.up (as:=bs.zip (bU true p (p.headD []).length)) (emb:=λx=>V.ref x.1) (ys:=bR (1,v) p) j (λσ=>∃x y,σ=[x,y,some (V.ref a)]) ⟨_,_,rfl⟩ (λO s=>by rw[<- M.zip];exact aN.of (s _ _ T)) (by rw[q0N];omega) ?_ ?_
  ·rintro i ⟨b,k⟩ y hx hy σ O N1 N0 ⟨x0,y0,rfl⟩ sm k1
   obtain⟨J,L⟩:=M.at hx;have J:(bU true p (p.headD []).length)[i]?=some k:=J;have g:((bU true p (p.headD []).length).map λk=>[(k.1,v.o1),(k.2,v.o2)])[i]?=some y:=hy;rw[KG,J]at g;cases g;ext;have Y:=sm _ _ ha;refine⟨_,dO.of (sm _ _ L),rfl,_,_,rfl,_,_,rfl,rfl,C,U,_,Y,cl,na.1,_,rfl,az (by decide),λu G=>?_⟩;generalize B:aE O u _=H1;obtain⟨S,(e1:bD H1 u (k.1,v.o1))⟩:=dN G B;refine⟨C,U,_,S _ _ Y,cl,na.2,_,rfl,az (by decide),λm D=>⟨az (by decide),λl e=>?_⟩⟩;generalize B:aE H1 m _=H2 at e ⊢;obtain⟨R,(e2:bD H2 m (k.2,v.o2))⟩:=dN D B;have z:=ao (o:=.lst [V.ref u,V.ref m]) e;have d:=S.trans R;exact k1 l _ _ ⟨sm.free (d.free e),[u,m],af,aW.two ((e1.up R).up z) (e2.up z)⟩ (sm.trans (d.trans z)) (d.trans z) ⟨_,_,rfl⟩
  ·intro Z O sm hW l e
   exact q l _ (sm.free e) ⟨Z,af,hW.mono λb y _ _ h=>lT.up h (ao e)⟩ (sm.trans (ao e))
abbrev fe:Stmt:=jw 38 4
theorem p_:aI ["self","cuts"] ["self","cuts"] (ax fe):=by walk_at "c"
theorem p9{f:Addr}(F:dw K "ways" "AboveRule.ways" fe f fd)(cc:jF K CC)(nc:D9 K CC)(cl:jF K C)(na:aJ K C "one"/\aJ K C "other"):↑bC 1 f fd ["self","cuts"] (dC CC C 2):=by
 have sc:=p_;walk_at "f"
 ·obtain⟨a,U,lp,cu,v,p,r,c,rfl,ha,⟨dc,l1,l2,l3,hc,_,_,⟨bs,T,L⟩⟩,S,t0,t7,q⟩:=h
  have hu:=hr.units;refine⟨_,(ai (aP (cq ["first","second"] [0] rfl (bP.of (by kernel_rfl)) (by kernel_rfl) (bG (cK (ar 1) rfl))
    (λ_ _ _ _=>(m6 (K:=K) (n:=2) rfl rfl (bh (aw (i:=0) (by show(["first","second","self"]:List Str).Nodup;decide +kernel) rfl (Or.inl rfl)) (bh (aw (i:=1) (by show(["first","second","self"]:List Str).Nodup;decide +kernel) rfl (Or.inl rfl)) dD)))) (λ_ _ _ _=>b9) (λ_ _ _ _=>(bw (ac (bO (ac (ar 0) (ac (mZ (K:=K) rfl (ar 2) rfl) ad))) (ac (bO (ac (ar 1) (ac (mZ (K:=K) rfl (ar 2) rfl) ad))) ad))))))),?_⟩
  ext;refine⟨CC,dc,_,hc,cc,nc.2.2.2,_,rfl,_,rfl,⟨_,aN.of T⟩,?_⟩;have j:(bs.zip (bU false p p.length)).length=(bR (2,v) p).length:=by
   show _=((bU false p p.length).map _).length;rw[q0N,L.1,KD,Nat.min_self]
  have hpl:(bU false p p.length).length<=6:=by
   unfold bU;rw[KD,q0J,S.rc.1];have:=S.r6;omega
  refine oS (lT H) lT.up (as:=bs.zip (bU false p p.length)) (emb:=λx=>V.ref x.1) (ys:=bR (2,v) p) j (λσ=>∃x y,σ=[x,y,some (V.ref a)]) ⟨_,_,rfl⟩ (λM s=>by rw[<- L.zip];exact aN.of (s _ _ T)) (by rw[q0N];omega) ?_ ?_
  ·rintro i ⟨b,k⟩ y hx hy σ M N1 N0 ⟨x0,y0,rfl⟩ sm k1
   obtain⟨I,J⟩:=L.at hx;have I:(bU false p p.length)[i]?=some k:=I;have g:((bU false p p.length).map λk=>[(k.1,v.o1),(k.2,v.o2)])[i]?=some y:=hy;rw[KG,I]at g;cases g;ext;have Y:=sm _ _ ha;refine⟨_,dO.of (sm _ _ J),rfl,_,_,rfl,_,_,rfl,rfl,C,U,_,Y,cl,na.1,_,rfl,az (by decide),λu G=>?_⟩;generalize B:aE M u _=H1;obtain⟨R,(e1:bD H1 u (k.1,v.o1))⟩:=dN G B;refine⟨C,U,_,R _ _ Y,cl,na.2,_,rfl,az (by decide),λm D=>⟨az (by decide),λl e=>?_⟩⟩;generalize B:aE H1 m _=H2 at e ⊢;obtain⟨O,(e2:bD H2 m (k.2,v.o2))⟩:=dN D B;have z:=ao (o:=.lst [V.ref u,V.ref m]) e;have d:=R.trans O;exact k1 l _ _ ⟨sm.free (d.free e),[u,m],af,aW.two ((e1.up O).up z) (e2.up z)⟩ (sm.trans (d.trans z)) (d.trans z) ⟨_,_,rfl⟩
  ·intro Z M sm hW l e
   exact q l _ (sm.free e) ⟨Z,af,hW.mono λb y _ _ h=>lT.up h (ao e)⟩ (sm.trans (ao e))
abbrev fU:Stmt:=jw 39 4
theorem tY:aI ["self","cuts"] ["self","cuts"] (ax fU):=by walk_at "c"
theorem tI{f:Addr}(F:dw K "ways" "TurnRule.ways" fU f fd)(cc:jl K CC)(cl:jF K C)(na:aJ K C "part"/\aJ K C "turning")(zIa:↑jp 4 CC "turned_text" ["self","t"] (fL CC))(yaw:↑dP 1 "back" ["t"] yk):↑bC 5 f fd ["self","cuts"] (dC CC C 3):=by
 have sc:=tY;walk_at "f"
 ·obtain⟨a,B,lp,M,v,p,r,c,rfl,y,z,G,D,t7,q⟩:=h
  refine⟨_,(ai (aP (bw (ac (bw (ac (bO (ac (rM zIa (hr.mono (by decide)) aO (ar 1) (ac (q00 yaw hr (ac (cK (ar 0) rfl) ad)) ad)) (ac (cK (ar 0) rfl) ad))) ad)) ad)))),?_⟩;ext;obtain⟨L,g,x,l3,I,hr1⟩:=id z;refine⟨L,_,I,rfl,C,B,_,y,cl,na.2,_,rfl,v.t.toNat,?_,⋯,?_⟩
  ·rw[Lu D]
  have u:df v.t.toNat<8:=(by decide:∀t,t<8->df t<8) _ ⋯;refine⟨M,p,r,c,df v.t.toNat,rfl,z,G,u,λH1 e=>⟨C,B,_,e _ _ y,cl,na.1,_,rfl,az (by decide),λj n=>⟨az (by decide),λg d=>⟨az (by decide),λx b=>?_⟩⟩⟩⟩;generalize i:aE H1 j _=H2 at d b ⊢;obtain⟨m,(e2:bD H2 j (bu (turned p (df v.t.toNat)),v.o1))⟩:=dN n i;generalize i:aE H2 g _=H3 at b ⊢;obtain⟨l,J⟩:=dN d i;have k:=ao (o:=.lst [V.ref g]) b;exact q x _ (e.free (m.free (l.free b))) ⟨[g],af,aW.one ⟨e.free (m.free d),[j],k _ _ J,aW.one ((e2.up l).up k)⟩⟩ (e.trans (m.trans (l.trans k)))
def o0(R:RC)(CC:Addr):List (Addr×Sp):=[(R.cc,dC CC R.cc 0),(R.cb,dC CC R.cb 1),(R.ca,dC CC R.ca 2),(R.ct,dC CC R.ct 3)]
theorem BH{R:RC}{CC:Addr}{k cu:Addr}{Q:VK}(hk:k<4)(ra:gn R H k a v)(hC:eZ CC H cu p)(hp:iF p r c)(t0:0<=v.t)(t7:v.t<=7)(q:∀l H',H l=none->jH (lT H) H' l (bR (k,v) p)->aD H H'->Q (.ref l) H') :
  ∃o∈o0 R CC,∃dx fs,H a=some (.ins o.1 dx fs)/\fs.lookup ("ways":Str)=none/\o.2 [.ref a,.ref cu] H Q E:=by
 obtain⟨dx,l,h1,h2⟩:=ra;rcases eM hk with rfl | rfl | rfl | rfl
 ·exact⟨(R.cc,dC CC R.cc 0),by simp[o0],dx,_,h1,rfl,a,dx,l,cu,v,p,r,c,rfl,h1,hC,hp,t0,t7,q⟩
 ·exact⟨(R.cb,dC CC R.cb 1),by simp[o0],dx,_,h1,rfl,a,dx,l,cu,v,p,r,c,rfl,h1,hC,hp,t0,t7,q⟩
 ·exact⟨(R.ca,dC CC R.ca 2),by simp[o0],dx,_,h1,rfl,a,dx,l,cu,v,p,r,c,rfl,h1,hC,hp,t0,t7,q⟩
 ·exact⟨(R.ct,dC CC R.ct 3),by simp[o0],dx,_,h1,rfl,a,dx,l,cu,v,p,r,c,rfl,h1,hC,hp,t0,t7,q⟩
abbrev lJ:Stmt:=fS 27
def Gj:Option Int->V
 |some c=>.int c
 |none=>.non
inductive pj(R:RC)(vs:List V)(H:Hp)(Q:VK)(_E:XK):Prop
 |mk (a lw d:Addr) (k:Nat) (v:RV) (way:List Ky) (T:Ky->Option Int) (_:vs=[.ref a,.ref lw,.ref d]) (_:gn R H k a v) (_:iz H lw way) (_:iR H d T) (_:Q (Gj (bS T v.c way)) H)
theorem wE:aI ["rule","way","told","cost","key"] ["rule","way","told"] (ax lJ):=by walk_at "c"
theorem v9{f:Addr}(F:dw K "cost_by" "cost_by" lJ f fd)(nb:NB mg)(rk:lx K R):↑bC 1 f fd ["rule","way","told"] (pj R):=by
 have sc:=wE;walk_at "f"
 ·obtain⟨a,J,d,k,v,e,T,rfl,⟨rdx,I,n,_⟩,⟨bs,C,D⟩,O,q⟩:=h
  have B:=hr.units;refine⟨_,(ae (q01 3 sc.nd (cK (ar 0) rfl))
   (ae (aS PassesOwn.never rfl (bG (ar 1)) (q02 4 sc.nd)
   (ae (bX (rW (qx (Lk (Lo (by decide:1<=64) _) B) (ar 4) (ar 2)) (by with_unfolding_all rfl))
   (ai (aP kM))
   bj)
   (ai (q01 3 sc.nd (ay (bE.m0 bK) (ar 3) (i8 (Lk (Lo (by decide:1<=64) _) B) (ar 2) (ar 4) (λ_ _=>rfl)))))))
   (ai (aP (ar 3))))),?_⟩
  symm;refine⟨_,_,_,n,(rk.icls k).cl,(rk.name k).2.1,_,(ja I v k).2.1,h1 _ _ ?_⟩;grind;refine⟨⟨_,aN.of C⟩,?_⟩;refine bW (xs:=bs.map V.ref) (λi σ m=>m=H/\i<=e.length/\∃(c:Int) (x:Option V),bS T v.c e=bS T c (e.drop i)/\σ=[some (V.ref a),some (V.ref J),some (V.ref d),some (V.int c),x]) ⟨rfl,K5 _,v.c,_,rfl,rfl⟩ (λi σ m _ h=>by rw[h.1];exact aN.of C) ?_ ?_
  ·rintro i x σ m z ⟨rfl,L,c,G,j,rfl⟩
   rw[KG]at z;obtain⟨b,y,rfl⟩:=K8.mp z;obtain⟨g,p,o⟩:=D.get y;have jS:=(KA.mp p).1;have M:e.drop i=g::e.drop (i+1):=by
    rw[q0T jS];rw[Kz jS]at p;cases p;rfl
   rw[M,show bS T c (g::e.drop (i+1))=(match T g with | none=>none | some v=>bS T (c+v) (e.drop (i+1))) from rfl]at j;have r:=O.get o;symm;refine⟨_,r,?_⟩;cases l:T g with
   |none=>
    rw[l]at j;rw[q07 (by rfl)];rw[show bS T v.c e=none from j]at q;exact q
   |some u=>
    rw[l]at j r;rw[q06 (by simp)];refine h1 _ _ ?_;clear h1;ext;exact⟨_,r,_,rfl,jS,_,j,rfl⟩
  ·rintro σ m ⟨rfl,L,c,G,j,rfl⟩
   refine h1 _ _ ?_;ext;rw[KD,D.1,List.drop_length]at j;rw[j]at q;exact q
def vS(T:Ky->Option Int)(p:aL)(n:Nat)(r:Nat×RV):List (Int×Nat×List Ky):=(bR r p).filterMap λw=>(bS T r.2.c w).map λc=>(c,n,w)
def cW(T:Ky->Option Int)(rs:Yaa)(p:aL)(n:Nat):List (Int×Nat×List Ky):=match rs[n]? with
 |none=>[]
 |some r=>vS T p n r
def rN(H:Hp)(b:Addr)(y:Int×Nat×List Ky):Prop:=∃lw,H b=some (.tup [.int y.1,.int (y.2.1:Int),.ref lw])/\iz H lw y.2.2
def iP(l:Addr)(H:Hp)(b:Addr)(y:Int×Nat×List Ky):Prop:=∃lw,lw≠l/\H b=some (.tup [.int y.1,.int (y.2.1:Int),.ref lw])/\iz H lw y.2.2
theorem iP.up(h:iP l H b y)(s:aD H H'):iP l H' b y:=let ⟨lw,h0,h1,h2⟩:=h;⟨lw,h0,s _ _ h1,ib h2 s⟩
theorem mY(h:iz H a y)(hl:H l=some (.lst xs))(ne:a≠l):iz (aE H l o) a y:=by
 obtain⟨bs,h1,h2⟩:=h;exact⟨bs,by rw[av ne];exact h1,h2.mono λb k _ _ q=>q.put hl⟩
theorem iP.put(h:iP l H b y)(hl:H l=some (.lst xs)):iP l (aE H l o) b y:=by
 obtain⟨c,a,h1,h2⟩:=h;exact⟨c,a,by rw[av (λz=>by rw[z,hl]at h1;cases h1)];exact h1,mY h2 hl a⟩
abbrev oX:Stmt:=fS 28
inductive qm(R:RC)(CG CC:Addr)(vs:List V)(H:Hp)(Q:VK)(_E:XK):Prop
 |mk (g dx ln cu d:Addr) (sg st:LA) (as:LD) (rs:Yaa) (ns:LA) (p:aL) (r c:Nat) (T:Ky->Option Int) (_:vs=[.ref g,.ref ln,.ref cu,.ref d]) (_:dM R H CG dx g sg st as rs) (_:(∀r∈rs,kF r)) (_:H ln=some (.lst (vJ ns))) (_:(∀n∈ns,n<rs.length)) (_:ns.length<=100) (_:eZ CC H cu p) (_:iF p r c) (_:iR H d T) (_:∀l H',H l=none->jH rN H' l (ns.flatMap (cW T rs p))->aD H H'->Q (.ref l) H')
theorem zh:aI ["grammar","numbers","cuts","told","found","number","rule","way","cost"] ["grammar","numbers","cuts","told"] (ax oX):=by walk_at "c"
theorem k9{r:Nat×RV}(h4:r.1<4)(hp:iF p a c):(bR r p).length<=6:=by
 obtain⟨k,v⟩:=r;have:=hp.r6;have:=hp.c6;rcases eM h4 with h | h | h | h<;>(simp only at h;subst h)
 ·show(if bu p=v.sg then[[]] else[]).length<=6
  split<;>simp
 ·show((bU true p (p.headD []).length).map _).length<=6
  unfold bU;rw[KD,KD,q0J,bf hp.rc hp.r0];omega
 ·show((bU false p p.length).map _).length<=6
  unfold bU;rw[KD,KD,q0J,hp.rc.1];omega
 ·show([[_]]:List (List Ky)).length<=6
  simp
theorem zZ{α β:Type}(f:α->List β){xs:List α}{i:Nat}{x:α}(h:xs[i]?=some x):(xs.take (i+1)).flatMap f=(xs.take i).flatMap f++f x:=by
 rw[q0E,h,List.flatMap_append];simp
theorem zD{f:Addr}(F:dw K "coming" "coming" oX f fd)(nb:NB mg)(yah:↑jp 1 CG "rule" ["self","k"] (fm R CG))(yaG:↑v4 5 "ways" (o0 R CC))(yaR:↑dP 1 "cost_by" ["rule","way","told"] (pj R)):↑bC 6 f fd ["grammar","numbers","cuts","told"] (qm R CG CC):=by
 have sc:=zh;walk_at "f"
 ·obtain⟨g,dx,ln,cu,d,sg,st,as,L,ns,p,r,c,T,rfl,hG,hg,b1,c2,hn100,hC,hp,hT,q⟩:=h
  have hu:=hr.units;refine⟨_,(ae (q01 4 sc.nd (bw ad))
   (ae (aS PassesOwn.never rfl (bG (ar 1)) (q02 5 sc.nd)
   (ae (q01 6 sc.nd (rM yah (hr.mono (by decide)) aO (ar 0) (ac (ar 5) ad)))
   (ai (aS PassesOwn.never rfl (bG (Dw yaG (hr.mono (by decide)) aO (ar 6) (ac (ar 2) ad))) (q02 7 sc.nd)
   (ae (q01 8 sc.nd (q00 yaR hr (ac (ar 6) (ac (ar 7) (ac (ar 3) ad)))))
   (ai (bX (aQ xL (ar 8) kM (a_ _))
   (ai (bg (q03 (ar 4) (ac (bO (ac (ar 8) (ac (ar 5) (ac (ar 7) ad)))) ad))))
   bj)))))))
   (ai (aP (ar 4))))),?_⟩
  symm;refine⟨K5 _,λl hl=>h1 _ _ ?_⟩;clear h1;generalize z0:aE H l _=H1;obtain⟨s1,e1⟩:=dN hl z0;symm;refine⟨⟨_,aN.of (s1 _ _ b1)⟩,?_⟩;refine bW (xs:=vJ ns) (λi σ Y=>aD H Y/\i<=ns.length/\(∃bs:List Addr,Y l=some (.lst (bs.map V.ref))/\aW (iP l) Y bs ((ns.take i).flatMap (cW T L p))/\bs.length<=6*i)/\∃x1 x2 x3 x4,σ=[some (V.ref g),some (V.ref ln),some (V.ref cu),some (V.ref d),some (V.ref l),x1,x2,x3,x4]) ⟨s1,K5 _,⟨[],e1,aW.nil,K5 _⟩,_,_,_,_,rfl⟩ (λi σ Y _ h=>aN.of (h.1 _ _ b1)) ?_ ?_
  ·rintro i x σ Y hx ⟨sm,_,⟨bs,U,hA,c3⟩,x1,x2,x3,x4,rfl⟩
   rw[vJ,KG]at hx;obtain⟨n,hn,rfl⟩:=K8.mp hx;have hi:=(KA.mp hn).1;have a8:=c2 n (KH hn);obtain⟨k,D⟩:∃k,L[n]?=some k:=⟨_,Kz a8⟩;have C:=hg k (KH D);have b6:=hG.up sm;obtain⟨lk,pn,t0,ha,hkk,a5,hN,hmm⟩:=id b6;obtain⟨b,S⟩:∃b,as[n]?=some b:=⟨_,Kz (by rw[a5.1];exact a8)⟩;have c1:=a5.2 n b k S D;rw[zZ _ hn,show cW T L p n=vS T p n k by unfold cW;rw[D]];symm;refine⟨dx,_,ha,rfl,g,dx,sg,st,as,L,n,b,rfl,b6,S,h1 _ _ ?_⟩;clear h1;ext;refine BH C.k4 c1 (hC.up sm) hp C.good.t0 C.good.t7 λlw H2 b0 hW s2=>?_;obtain⟨ws,a2,b4⟩:=hW;have hwl:=k9 C.k4 hp;refine⟨lw,rfl,⟨_,aN.of a2⟩,?_⟩;have a0:=sm.trans s2;have hT2:=hT.up a0;have a7:gn R H k.1 b k.2:=let ⟨_,_,_,_,_,hrs0,_,_⟩:=hG;hrs0.2 n b k S D
   have c4:=s2 _ _ U;have a9:lw≠l:=λe=>by rw[e,U]at b0;cases b0
   have h0:aW (iP l) H2 bs ((ns.take i).flatMap (cW T L p)++((bR k p).take 0).filterMap λw=>(bS T k.2.c w).map λc=>(c,n,w)):=by
    show aW (iP l) H2 bs ((ns.take i).flatMap (cW T L p)++[]);rw[Lc];exact hA.mono λb y _ _ h=>h.up s2
   refine bW (xs:=ws.map V.ref) (λj σ J=>aD H J/\J lw=some (.lst (ws.map V.ref))/\aW iz J ws (bR k p)/\(∀a∈ws,a≠l)/\j<=ws.length/\(∃bs:List Addr,J l=some (.lst (bs.map V.ref))/\aW (iP l) J bs ((ns.take i).flatMap (cW T L p)++((bR k p).take j).filterMap λw=>(bS T k.2.c w).map λc=>(c,n,w))/\bs.length<=6*i+j)/\∃x1 x2,σ=[some (V.ref g),some (V.ref ln),some (V.ref cu),some (V.ref d),some (V.ref l),some (V.int (n:Int)),some (V.ref b),x1,x2])
    ⟨a0,a2,b4.mono λ_ _ _ _ h=>h.2,λa ha=>?_,K5 _,⟨bs,c4,h0,⋯⟩,_,_,rfl⟩ (λj σ J _ h=>aN.of h.2.1) ?_ ?_
   ·obtain⟨j,hj⟩:=List.mem_iff_getElem?.mp ha
    obtain⟨y,_,hy⟩:=b4.get hj;exact λe=>by have:=hy.1;rw[e,U]at this;cases this
   ·rintro j x σ J hx ⟨o,O,m,v,_,⟨I,z,B,b2⟩,y1,y2,rfl⟩
    rw[KG]at hx;obtain⟨wa,M,rfl⟩:=K8.mp hx;obtain⟨u,a4,a1⟩:=m.get M;have hj:=(KA.mp M).1;have ya5:=m.1;have a6:=a7.up o;symm;refine⟨b,wa,d,k.1,k.2,u,T,rfl,a6,a1,hT.up o,h1 _ _ ?_⟩;clear h1;rw[q0E,a4,List.filterMap_append,<- Ld];ext;cases b3:bS T k.2.c u with
    |none=>
     rw[q06 (λh=>h rfl)];refine⟨o,O,m,v,hj,I,z,?_,⋯⟩;rw[show(some u).toList.filterMap (λw=>(bS T k.2.c w).map λc=>(c,n,w))=[] by simp[b3],Lc];exact B
    |some cst=>
     rw[q07 (λh=>nomatch h)];refine⟨.inl ⟨rfl,_,aN.of z⟩,az (by decide),λtp c0=>?_⟩;generalize z0:aE J tp _=H4;obtain⟨Z,(e4:H4 tp=some (.tup [.int cst,.int (n:Int),.ref wa]))⟩:=dN c0 z0;have G:=Z _ _ z;have a3:=v wa (KH M);refine⟨_,G,by rw[KD];exact aR ⋯,bz (o.trans Z) hl,by rw[av a9];exact Z _ _ O,m.mono λb y U _ h=>mY (ib h Z) G (v b U),v,hj,I++[tp],by rw[af,KQ];rfl,?_,by rw[K3];simp;omega⟩;rw[show(some u).toList.filterMap (λw=>(bS T k.2.c w).map λc=>(c,n,w))=[(cst,n,u)] by simp[b3]];exact(B.mono λb y _ _ h=>(h.up Z).put G).snoc (iP.put ⟨wa,a3,e4,ib a1 Z⟩ G)
   ·rintro σ J ⟨o,O,m,v,_,⟨I,z,B,b2⟩,y1,y2,rfl⟩
    rw[KD,m.1,Lf]at B;rw[KD]at b2;exact⟨o,hi,⟨I,z,B,by have:=m.1;omega⟩,_,_,_,_,rfl⟩
  ·rintro σ Y ⟨sm,_,⟨bs,U,hA,c3⟩,x1,x2,x3,x4,rfl⟩
   refine h1 _ _ ?_;ext;rw[vJ,KD,Lf]at hA;exact q l Y hl ⟨bs,U,hA.mono λb y _ _ h=>let ⟨lw,_,h1,h2⟩:=h;⟨lw,h1,h2⟩⟩ sm
def Gu:HO->Prop
 | .dT _=>True
 |_=>False
def Kp(H H':Hp):Prop:=∀x o,¬ Gu o->H x=some o->H' x=some o
theorem Kp.lst{H H':Hp}(s:Kp H H'){a:Addr}{xs:List V}(h:H a=some (.lst xs)):H' a=some (.lst xs):=s _ _ id h
theorem Kp.tup{H H':Hp}(s:Kp H H'){a:Addr}{xs:List V}(h:H a=some (.tup xs)):H' a=some (.tup xs):=s _ _ id h
theorem Kp.ins{H H':Hp}(s:Kp H H'){a C dx:Addr}{fs:List (Str×V)}(h:H a=some (.ins C dx fs)):H' a=some (.ins C dx fs):=s _ _ id h
theorem Kp.dK{H H':Hp}(s:Kp H H'){a:Addr}{fs:List (cL×V)}(h:H a=some (.dK fs)):H' a=some (.dK fs):=s _ _ id h
theorem bN.kp(h:bN R H as rs)(s:Kp H H'):bN R H' as rs:=by
 refine⟨h.1,λi a r c b=>?_⟩;obtain⟨d,l,h1,h2⟩:=h.2 i a r c b;exact⟨d,l,s.ins h1,s.lst h2⟩
theorem dM.kp{st:LA}(g:dM R H C dx a sg st as rs)(s:Kp H H'):dM R H' C dx a sg st as rs:=by
 obtain⟨d,c,t,h1,h2,j,b,i⟩:=g;exact⟨d,c,t,s.ins h1,s.lst h2,j.kp s,⟨s.dK b.dict,λx e=>s.lst (b.list x e),b.apart⟩,i⟩
theorem bp.kp(s:bp d H H')(hd:H d=some (.dT m)):Kp H H':=λx o h e=>s x o (λz=>by rw[z,hd]at e;cases e;exact h trivial) e
theorem Bq{β:Type}{A:Hp->Addr->β->Prop}(u:∀{b:Addr} {y:β},A H b y->A H' b y)(s:Kp H H'){l:Addr}{ys:List β}(h:jH A H l ys):jH A H' l ys:=by
 obtain⟨bs,h1,h2⟩:=h;exact⟨bs,s.lst h1,h2.mono λb y _ _ q=>u q⟩
theorem bD.kp(h:bD H a k)(s:Kp H H'):bD H' a k:=s.tup h
theorem eZ.kp(h:eZ CC H c p)(s:Kp H H'):eZ CC H' c p:=by
 obtain⟨i,a,b,d,h1,h2,g,e⟩:=h;exact⟨i,a,b,d,s.ins h1,s.lst h2,Bq (A:=bD) (λq=>q.kp s) s g,Bq (A:=bD) (λq=>q.kp s) s e⟩
theorem rN.kp(h:rN H b y)(s:Kp H H'):rN H' b y:=let ⟨lw,h1,h2⟩:=h;⟨lw,s.tup h1,Bq (A:=bD) (λq=>q.kp s) s h2⟩
abbrev Tb:=List (Ky×Int)
def dj(e:Ky×Int):List cL×V:=(gM e.1,.int e.2)
def aH(tb:Tb)(k:Ky):Option Int:=(tb.find? λe=>decide (e.1=k)).map (·.2)
def kb(tb:Tb)(k:Ky)(v:Int):Tb:=if(aH tb k).isSome=true then tb.map (λe=>if e.1=k then(e.1,v) else e) else tb++[(k,v)]
theorem eu(e:Ky×Int)(tb:Tb)(k:Ky):aH (e::tb) k=if e.1=k then some e.2 else aH tb k:=by
 unfold aH;rw[List.find?_cons]
 by_cases h:e.1=k
 ·simp[h]
 ·simp[h]
theorem gI(tb:Tb)(k:Ky):dL (tb.map dj) (gM k)=(aH tb k).map V.int:=by
 induction tb with
 |nil=>rfl
 |cons e tb ih=>
  rw[K_,eu]
  by_cases h:e.1=k
  ·rw[fK (show(dj e).1=gM k from q0R gM h),q07 h];rfl
  ·rw[fP (λq=>h (uT q)),q06 h];exact ih
theorem vh(tb:Tb)(k:Ky)(v:Int):dE (tb.map dj) (gM k) (.int v)=(kb tb k v).map dj:=by
 unfold dE kb;rw[gU,gI,Option.isSome_map]
 split
 ·rw[KS,KS]
  refine q0K λe _=>?_;show(if gM e.1=gM k then(gM e.1,V.int v) else dj e)=dj (if e.1=k then(e.1,v) else e)
  by_cases h:e.1=k
  ·rw[q07 (q0R gM h),q07 h];rfl
  ·rw[q06 λq=>h (uT q),q06 h]
 ·rw[KQ];rfl
theorem uY(k:Ky)(v:Int)(k':Ky):∀tb:Tb,aH (tb.map λe=>if e.1=k then(e.1,v) else e) k'=if k'=k then(aH tb k).map λ_=>v else aH tb k'
 | []=>by simp[aH]
 |e::tb=>by
  rw[K_,eu,eu,eu,uY k v k' tb]
  by_cases h:e.1=k
  ·by_cases h':k'=k
   ·simp[h,h']
   ·have:¬ k=k':=λq=>h' q.symm
    simp[h,h',this]
  ·by_cases h':k'=k
   ·subst h';simp[h]
   ·simp[h,h']
theorem rh(k:Ky)(v:Int)(k':Ky):∀tb:Tb,aH (tb++[(k,v)]) k'=match aH tb k' with
  |some u=>some u
  |none=>if k=k' then some v else none
 | []=>by simp[aH]
 |e::tb=>by
  rw[List.cons_append,eu,eu,rh k v k' tb]
  by_cases h:e.1=k'
  ·simp[h]
  ·simp[h]
theorem gC(tb:Tb)(k:Ky)(v:Int)(k':Ky):aH (kb tb k v) k'=if k'=k then some v else aH tb k':=by
 unfold kb
 split
 ·rename_i h
  rw[uY];obtain⟨u,hu⟩:=Option.isSome_iff_exists.mp h;rw[hu];rfl
 ·rename_i h
  rw[rh]
  by_cases e:k'=k
  ·subst e
   have:aH tb k'=none:=by simpa using h
   rw[this,q07 rfl]
  ·rw[q06 e,q06 λq=>e q.symm]
   cases aH tb k'<;>rfl
theorem BX{v:Int}(h:aH tb k=some v):(k,v)∈tb:=by
 unfold aH at h;obtain⟨e,a,rfl⟩:=K8.mp h;have h1:=List.find?_some a;have h2:=List.mem_of_find?_eq_some a;have b:e.1=k:=by simpa using h1
 rw[<- b];exact h2
theorem Bj(h:aH tb k=none):k∉tb.map (·.1):=by
 intro a;obtain⟨e,b,rfl⟩:=Lm.mp a;unfold aH at h;rw[Option.map_eq_none_iff,List.find?_eq_none]at h;exact h e b (by simp)
theorem ny{tb:Tb}(nd:(tb.map (·.1)).Nodup){k:Ky}{v:Int}(h:(k,v)∈tb):aH tb k=some v:=by
 induction tb with
 |nil=>exact nomatch h
 |cons e tb ih=>
  rw[K_,q0d]at nd;rw[eu];rcases KU.mp h with rfl | h
  ·rw[q07 rfl]
  ·rw[q06 λq=>nd.1 (by rw[q];exact Lm.mpr ⟨_,h,rfl⟩)]
   exact ih nd.2 h
theorem qp(tb:Tb)(k:Ky)(v:Int):(kb tb k v).map (·.1)=if(aH tb k).isSome=true then tb.map (·.1) else tb.map (·.1)++[k]:=by
 unfold kb
 split
 ·rw[KS]
  refine q0K λe _=>?_;show(if e.1=k then(e.1,v) else e).1=e.1
  split<;>rfl
 ·rw[KQ];rfl
theorem yj{tb:Tb}(nd:(tb.map (·.1)).Nodup):((kb tb k v).map (·.1)).Nodup:=by
 rw[qp]
 split
 ·exact nd
 ·rename_i h
  rw[List.nodup_append];refine⟨nd,by simp,λa ha b hb e=>?_⟩;rw[KF.mp hb]at e;exact Bj (by simpa using h) (e▸ha)
theorem oM(tb:Tb)(k:Ky)(v:Int):(kb tb k v).length=if(aH tb k).isSome=true then tb.length else tb.length+1:=by
 have:=q0R List.length (qp tb k v);rw[KD]at this;rw[this]
 split
 ·rw[KD]
 ·rw[K3,KD];rfl
def cv(H:Hp)(d:Addr)(tb:Tb):Prop:=H d=some (.dT (tb.map dj))
theorem cv.told(h:cv H d tb):iR H d (aH tb):=⟨_,h,λk=>gI tb k⟩
theorem cv.up(h:cv H d tb)(s:aD H H'):cv H' d tb:=s _ _ h
def hX(tb:Tb)(k:Ky)(v:Int):Bool:=match aH tb k with
 |some u=>decide (v<u)
 |none=>true
def dU(tb:Tb)(k:Ky)(v:Int):Tb:=if hX tb k v=true then kb tb k v else tb
def uC(tb tb':Tb):Prop:=∀k u,aH tb k=some u->∃u',u'<=u/\aH tb' k=some u'
theorem uC.refl(tb:Tb):uC tb tb:=λk u h=>⟨u,Int.le_refl _,h⟩
theorem uC.trans(h1:uC a b)(h2:uC b c):uC a c:=λk u h=>by
 obtain⟨u1,l1,e1⟩:=h1 k u h;obtain⟨u2,l2,e2⟩:=h2 k u1 e1;exact⟨u2,Int.le_trans l2 l1,e2⟩
theorem ji(tb:Tb)(k:Ky)(v:Int)(k':Ky):aH (dU tb k v) k'=if k'=k/\hX tb k v=true then some v else aH tb k':=by
 unfold dU
 by_cases h:hX tb k v=true
 ·rw[q07 h,gC]
  by_cases e:k'=k
  ·rw[q07 e,q07 ⟨e,h⟩]
  ·rw[q06 e,q06 λq=>e q.1]
 ·rw[q06 h,q06 λq=>h q.2]
theorem tE{k:Ky}{k':Ky}(h:k'≠k):aH (dU tb k v) k'=aH tb k':=by rw[ji,q06 λq=>h q.1]
theorem yl(tb:Tb)(k:Ky)(v:Int):∃v',v'<=v/\aH (dU tb k v) k=some v':=by
 rw[ji];cases h:hX tb k v with
 |true=>exact⟨v,Int.le_refl _,by simp⟩
 |false=>
  unfold hX at h;cases a:aH tb k with
  |none=>rw[a]at h;cases h
  |some u=>
   rw[a]at h;have:¬ v<u:=by simpa using h
   exact⟨u,⋯,by simp⟩
theorem xc(tb:Tb)(k:Ky)(v:Int):uC tb (dU tb k v):=by
 intro b u a;rw[ji]
 by_cases e:b=k/\hX tb k v=true
 ·rw[q07 e]
  obtain⟨rfl,h⟩:=e;unfold hX at h;rw[a]at h;have:v<u:=by simpa using h
  exact⟨v,⋯,rfl⟩
 ·rw[q06 e];exact⟨u,Int.le_refl _,a⟩
theorem tR{k':Ky}{u:Int}(h:aH (dU tb k v) k'=some u):aH tb k'=some u\/k'=k/\u=v:=by
 rw[ji]at h
 split at h
 ·rename_i e
  exact .inr ⟨e.1,by injection h with h;exact h.symm⟩
 ·exact .inl h
theorem Ay{tb:Tb}(nd:(tb.map (·.1)).Nodup):((dU tb k v).map (·.1)).Nodup:=by
 unfold dU
 split
 ·exact yj nd
 ·exact nd
theorem yp(tb:Tb)(k:Ky)(v:Int):(dU tb k v).length<=if(aH tb k).isSome=true then tb.length else tb.length+1:=by
 unfold dU
 split
 ·rw[oM];exact K4 _
 ·split<;>omega
def xr(p:aL):Prop:=p≠[]/\bQ p
theorem xr.inj(h:xr p)(h':xr q)(e:bu p=bu q):p=q:=SpM.glue_inj 47 h.1 h'.1 h.2 h'.2 e
inductive Dv(rs:Yaa):Ky->Int->Prop
 |leaf {r:Nat×RV} {p:aL}:r∈rs->xr p->[]∈bR r p->Dv rs (bu p,r.2.n) r.2.c
 |one {r:Nat×RV} {p:aL} {k:Ky} {a:Int}:r∈rs->xr p->[k]∈bR r p->Dv rs k a->Dv rs (bu p,r.2.n) (r.2.c+a)
 |two {r:Nat×RV} {p:aL} {k1 k2:Ky} {a b:Int}:r∈rs->xr p->[k1,k2]∈bR r p->Dv rs k1 a->Dv rs k2 b->Dv rs (bu p,r.2.n) (r.2.c+a+b)
theorem kN{w:List Ky}(h:w∈bR r p):w=[]\/(∃k,w=[k])\/∃k1 k2,w=[k1,k2]:=by
 unfold bR at h
 split at h
 ·split at h
  ·exact .inl (KF.mp h)
  ·exact nomatch h
 ·obtain⟨k,_,rfl⟩:=Lm.mp h
  exact .inr (.inr ⟨_,_,rfl⟩)
 ·obtain⟨k,_,rfl⟩:=Lm.mp h
  exact .inr (.inr ⟨_,_,rfl⟩)
 ·exact .inr (.inl ⟨_,KF.mp h⟩)
theorem nU{v:Int}{k:Ky}(h:bS T c [k]=some v):∃a,T k=some a/\v=c+a:=by
 unfold bS at h;cases b:T k with
 |none=>rw[b]at h;cases h
 |some a=>rw[b]at h;injection h with h;exact⟨a,rfl,h.symm⟩
theorem vB{v:Int}{k1 k2:Ky}(h:bS T c [k1,k2]=some v):∃a b,T k1=some a/\T k2=some b/\v=c+a+b:=by
 unfold bS at h;cases d:T k1 with
 |none=>rw[d]at h;cases h
 |some a=>
  rw[d]at h;obtain⟨b,g,e⟩:=nU h;exact⟨a,b,rfl,g,e⟩
theorem xK{rs:Yaa}{r:Nat×RV}{w:List Ky}{v:Int}(hr:r∈rs)(hp:xr p)(hw:w∈bR r p)(hc:bS T r.2.c w=some v)(hT:∀k∈w,∀u,T k=some u->Dv rs k u):Dv rs (bu p,r.2.n) v:=by
 rcases kN hw with rfl | ⟨k,rfl⟩ | ⟨g,e,rfl⟩
 ·injection hc with hc;rw[<- hc];exact .leaf hr hp hw
 ·obtain⟨a,d,rfl⟩:=nU hc
  exact .one hr hp hw (hT k (by simp) a d)
 ·obtain⟨a,b,d,i,rfl⟩:=vB hc
  exact .two hr hp hw (hT g (by simp) a d) (hT e (by simp) b i)
theorem i6{T T':Ky->Option Int}:∀{w:List Ky} {c:Int},(∀k∈w,T k=T' k)->bS T c w=bS T' c w
 | [],c,_=>rfl
 |k::w,c,h=>by
  show(match T k with | none=>none | some v=>bS T (c+v) w)=(match T' k with | none=>none | some v=>bS T' (c+v) w);rw[h k (q0B ..)];cases T' k with
  |none=>rfl
  |some v=>exact i6 λk hk=>h k (KW _ hk)
def G6(rs:Yaa)(T:Ky->Option Int)(q:aL):Prop:=∀r∈rs,∀w∈bR r q,∀v,bS T r.2.c w=some v->∃v',v'<=v/\T (bu q,r.2.n)=some v'
set_option tactic.hygienic true in
theorem qV(hq:rect q a c)(a0:0<a)(c0:0<c){w:List Ky}(hw:w∈bR r q){k:Ky}(hk:k∈w) :
  (∃t l b x,t<b/\b<=a/\l<x/\x<=c/\k.1=bu (cut q t l b x)/\bM (cut q t l b x)<bM q/\r.1<3)\/(3<=r.1/\w=[(bu (turned q (df r.2.t.toNat)),r.2.o1)]):=by
 have cell:∀{t l b x:Nat},t<b->b<=a->l<x->x<=c->(b-t<a/\x-l=c\/b-t=a/\x-l<c)->bM (cut q t l b x)<bM q:=by
  intro t l b x h1 h2 h3 h4 h5;have hc:=cI hq h1 h2 h3 h4;unfold bM;rw[hc.1,bf hc ⋯,hq.1,bf hq a0];rcases h5 with⟨h,e⟩ | ⟨e,h⟩
  ·rw[e];exact Nat.mul_lt_mul_of_pos_right h c0
  ·rw[e];exact Nat.mul_lt_mul_of_pos_left h a0
 unfold bR at hw
 split at hw
 ·split at hw
  ·rw[KF.mp hw]at hk;exact nomatch hk
  ·exact nomatch hw
 ·rename_i hr
  obtain⟨k0,h0,rfl⟩:=Lm.mp hw;unfold bU at h0;obtain⟨j,hj,rfl⟩:=Lm.mp h0;have hj:=List.mem_range.mp hj;rw[bf hq a0]at hj
  left
  rcases KU.mp hk with rfl | hk
  ·exact⟨0,0,a,j+1,a0,K4 _,⋯,⋯,q0R bu (qC hq),cell a0 (K4 _) ⋯ ⋯ (.inr ⟨⋯,⋯⟩),⋯⟩
  ·rw[KF.mp hk]
   exact⟨0,j+1,a,c,a0,K4 _,⋯,K4 _,q0R bu (qr hq),cell a0 (K4 _) ⋯ (K4 _) (.inr ⟨⋯,⋯⟩),⋯⟩
 ·rename_i hr
  obtain⟨k0,h0,rfl⟩:=Lm.mp hw;unfold bU at h0;obtain⟨j,hj,rfl⟩:=Lm.mp h0;have hj:=List.mem_range.mp hj;rw[hq.1]at hj
  left
  rcases KU.mp hk with rfl | hk
  ·exact⟨0,0,j+1,c,⋯,⋯,c0,K4 _,q0R bu (qi hq),cell ⋯ ⋯ c0 (K4 _) (.inl ⟨⋯,⋯⟩),⋯⟩
  ·rw[KF.mp hk]
   exact⟨j+1,0,a,c,⋯,K4 _,c0,K4 _,q0R bu (qM hq),cell ⋯ (K4 _) c0 (K4 _) (.inl ⟨⋯,⋯⟩),⋯⟩
 ·rename_i x h0 h1 h2
  right
  refine⟨?_,KF.mp hw⟩;rcases hh:r.1 with _ | _ | _ | n
  ·exact q0Q hh h0
  ·exact q0Q hh h1
  ·exact q0Q hh h2
  ·omega
theorem eR(hp:rect p r c)(hn:bQ p)(h:ba p r c q):xr q:=by
 obtain⟨r',c',h1,h2,_⟩:=h.rect hp;exact⟨λe=>by rw[e]at h1;have:=h1.1;simp at this;omega,h.ns hp hn⟩
theorem j8(hp:rect p r c)(h:ba p r c q){x:Nat×RV}(t0:0<=x.2.t)(t7:x.2.t<=7){w:List Ky}(hw:w∈bR x q){k:Ky}(hk:k∈w):∃q',ba p r c q'/\k.1=bu q'/\(bM q'<bM q\/3<=x.1/\q'=turned q (df x.2.t.toNat)):=by
 obtain⟨a,b,h1,h2,n,_⟩:=h.rect hp;rcases qV h1 h2 n hw hk with⟨t,l,b,y,d,m,j,i,g,e,_⟩ | ⟨d,rfl⟩
 ·exact⟨_,h.cut hp h1 d m j i,g,.inl e⟩
 ·rw[KF.mp hk]
  exact⟨_,h.turned hp (jb ⋯),rfl,.inr ⟨d,rfl⟩⟩
theorem Bp{rs:Yaa}(hp:rect p r c)(hn:bQ p)(hg:∀x∈rs,0<=x.2.t/\x.2.t<=7)(hC:∀q,ba p r c q->G6 rs T q){k:Ky}{v:Int}(h:Dv rs k v):∀q,ba p r c q->k.1=bu q->∃v',v'<=v/\T k=some v':=by
 induction h with
 | @leaf x q0 hr ho hw=>
  intro q d e;have e:=ho.inj (eR hp hn d) e;subst e;exact hC _ d x hr _ hw _ rfl
 | @one x q0 k a hr ho hw _ ih=>
  intro q d e;have e:=ho.inj (eR hp hn d) e;subst e;obtain⟨g,h1,j,_⟩:=j8 hp d (hg x hr).1 (hg x hr).2 hw (k:=k) (by simp);obtain⟨m,o,i⟩:=ih g h1 j;obtain⟨v',u,l⟩:=hC _ d x hr _ hw (x.2.c+m) (by unfold bS;rw[i];rfl);exact⟨v',⋯,l⟩
 | @two x q0 k1 k2 a b hr ho hw _ _ ih1 ih2=>
  intro q d e;have e:=ho.inj (eR hp hn d) e;subst e;obtain⟨g,h1,j,_⟩:=j8 hp d (hg x hr).1 (hg x hr).2 hw (k:=k1) (by simp);obtain⟨n,h2,y,_⟩:=j8 hp d (hg x hr).1 (hg x hr).2 hw (k:=k2) (by simp);obtain⟨m,o,i⟩:=ih1 g h1 j;obtain⟨z,lb,w⟩:=ih2 n h2 y;obtain⟨v',u,l⟩:=hC _ d x hr _ hw (x.2.c+m+z) (by unfold bS;rw[i];show bS T _ [k2]=_;unfold bS;rw[w];rfl);exact⟨v',⋯,l⟩
def CK(q:aL)(ns:List (List Nat)):List Ky:=(List.range 8).flatMap λt=>ns.map λn=>(bu (turned q t),n)
theorem j4{ns:List (List Nat)}{k:Ky}:k∈CK q ns↔∃t,t<8/\∃n,n∈ns/\k=(bu (turned q t),n):=by
 unfold CK;simp only[List.mem_flatMap,List.mem_range,Lm]
 constructor
 ·rintro⟨t,a,n,b,rfl⟩;exact⟨t,a,n,b,rfl⟩
 ·rintro⟨t,a,n,b,rfl⟩;exact⟨t,a,n,b,rfl⟩
theorem sj(q:aL)(ns:List (List Nat)):(CK q ns).length=8*ns.length:=by
 unfold CK;rw[List.length_flatMap];simp only[KD];show ns.length+(ns.length+(ns.length+(ns.length+(ns.length+(ns.length+(ns.length+(ns.length+0)))))))=_;omega
def gE(q:aL)(r:Nat×RV)(t:Nat):Ky:=(bu (turned q (after t r.2.t.toNat)),r.2.n)
def BW(trs:Yaa)(q:aL)(tb:Tb)(k:Ky)(v:Int):Prop:=∀r∈trs,r.2.o1=k.2->∀t,t<8->k.1=bu (turned q t)->∃v',v'<=v+r.2.c/\aH tb (gE q r t)=some v'
theorem BW.le{trs:Yaa}{tb':Tb}(h:BW trs q tb k v)(l:uC tb tb'):BW trs q tb' k v:=λr hr e t ht e'=>by
 obtain⟨v1,l1,e1⟩:=h r hr e t ht e';obtain⟨v2,l2,e2⟩:=l _ _ e1;exact⟨v2,Int.le_trans l2 l1,e2⟩
theorem mU{α:Type}{f g:α->Nat}:∀{ks:List α},(∀x∈ks,f x<=g x)->(ks.map f).sum<=(ks.map g).sum
 | [],_=>K4 _
 |k::ks,h=>by
  have h1:=h k (q0B ..);have h2:=mU (ks:=ks) λx hx=>h x (KW _ hx);rw[K_,K_,List.sum_cons,List.sum_cons];omega
theorem rS{α:Type}{f g:α->Nat}:∀{ks:List α} {x:α},(∀x∈ks,f x<=g x)->x∈ks->f x<g x->(ks.map f).sum+1<=(ks.map g).sum
 | [],_,_,h,_=>nomatch h
 |k::ks,x,h,hx,hl=>by
  have h1:=h k (q0B ..);have hr:∀x∈ks,f x<=g x:=λx hx=>h x (KW _ hx);rw[K_,K_,List.sum_cons,List.sum_cons];rcases KU.mp hx with rfl | hx
  ·have h2:=mU hr;omega
  ·have h2:=rS hr hx hl;omega
theorem nQ{α:Type}{f:α->Nat}{b:Nat}:∀{ks:List α},(∀x∈ks,f x<=b)->(ks.map f).sum<=b*ks.length
 | [],_=>K5 _
 |k::ks,h=>by
  have h1:=h k (q0B ..);have h2:=nQ (ks:=ks) λx hx=>h x (KW _ hx);rw[K_,List.sum_cons,KP,Nat.mul_succ];omega
def vV(tb:Tb)(k:Ky):Nat:=match aH tb k with
 |some _=>1
 |none=>0
def DP(B:Nat)(tb:Tb)(k:Ky):Nat:=match aH tb k with
 |some v=>v.toNat
 |none=>B+1
def nW(ks:List Ky)(tb:Tb):Nat:=(ks.map (vV tb)).sum
def E9(ks:List Ky)(B:Nat)(tb:Tb):Nat:=(ks.map (DP B tb)).sum
theorem hZ(ks:List Ky)(tb:Tb):nW ks tb<=ks.length:=by
 have:=nQ (f:=vV tb) (b:=1) (ks:=ks) λx _=>by unfold vV;split<;>omega
 unfold nW;omega
theorem yg{tb':Tb}(l:uC tb tb')(k:Ky):vV tb k<=vV tb' k:=by
 unfold vV;cases h:aH tb k with
 |none=>exact K5 _
 |some v=>
  obtain⟨v',_,e⟩:=l k v h;rw[e];exact K4 _
theorem EO{tb':Tb}(l:uC tb tb')(ks:List Ky):nW ks tb<=nW ks tb':=mU λx _=>yg l x
theorem CV{tb':Tb}(l:uC tb tb'){ks:List Ky}{k:Ky}{v:Int}(hk:k∈ks)(h:aH tb k=none)(h':aH tb' k=some v):nW ks tb+1<=nW ks tb':=rS (λx _=>yg l x) hk (by unfold vV;rw[h,h'];exact Nat.zero_lt_one)
structure TI(trs rs:Yaa)(q:aL)(ns:List (List Nat))(M L0:Nat)(tb0 tb:Tb)(op:Ky->Prop):Prop where
 nd:(tb.map (·.1)).Nodup
 le:uC tb0 tb
 out:∀k,k∉CK q ns->aH tb k=aH tb0 k
 snd:∀k∈CK q ns,∀v,aH tb k=some v->Dv rs k v
 sett:∀k∈CK q ns,∀v,aH tb k=some v->¬ op k->BW trs q tb k v
 opk:∀k,op k->k∈CK q ns/\∃v,aH tb k=some v
 pos:∀k∈CK q ns,∀v,aH tb k=some v->1<=v/\v<=((M+9*nW (CK q ns) tb:Nat):Int)
 len:tb.length<=L0+nW (CK q ns) tb
theorem TI.op{trs:Yaa}{ns:List (List Nat)}{L0:Nat}{tb0:Tb}{op op':Ky->Prop}(h:TI trs rs q ns M L0 tb0 tb op)(h1:∀k,op' k->op k)(h2:∀k v,op k->¬ op' k->aH tb k=some v->BW trs q tb k v):TI trs rs q ns M L0 tb0 tb op':=
 ⟨h.nd,h.le,h.out,h.snd,λk hk v e no=>by
  by_cases ho:op k
  ·exact h2 k v ho no e
  ·exact h.sett k hk v e ho,λk ho=>h.opk k (h1 k ho),h.pos,h.len⟩
theorem kX{r:Nat×RV}(h:3<=r.1)(p:aL):bR r p=[[(bu (turned p (df r.2.t.toNat)),r.2.o1)]]:=by
 unfold bR
 split
 ·omega
 ·omega
 ·omega
 ·rfl
structure Hq(rs:Yaa)(ns:List (List Nat))(r:Nat×RV):Prop where
 mem:r∈rs
 k3:3<=r.1
 c1:1<=r.2.c
 c9:r.2.c<=9
 t0:0<=r.2.t
 t7:r.2.t<=7
 nm:r.2.n∈ns
theorem TI.low{trs:Yaa}{ns:List (List Nat)}{L0:Nat}{tb0:Tb}{op:Ky->Prop}(h:TI trs rs q ns M L0 tb0 tb op)(hq:rect q a c)(a0:0<a)(c0:0<c)(hO:∀t,t<8->xr (turned q t))(h8:ns.length<=8){r:Nat×RV}(hr:Hq rs ns r){t:Nat}(ht:t<8){v:Int}(hk:(bu (turned q t),r.2.o1)∈CK q ns)(hv:aH tb (bu (turned q t),r.2.o1)=some v) :
  TI trs rs q ns M L0 tb0 (dU tb (gE q r t) (v+r.2.c)) (λx=>op x\/(hX tb (gE q r t) (v+r.2.c)=true/\x=gE q r t))/\E9 (CK q ns) (M+576) (dU tb (gE q r t) (v+r.2.c))+(if hX tb (gE q r t) (v+r.2.c)=true then 1 else 0)<=E9 (CK q ns) (M+576) tb:=by
 have B:r.2.t.toNat<8:=by have:=hr.t0;have:=hr.t7;omega
 have G:=gG ht B;have g:gE q r t∈CK q ns:=j4.mpr ⟨_,G,_,hr.nm,rfl⟩;have m:Dv rs (gE q r t) (v+r.2.c):=by
  rw[Int.add_comm];refine Dv.one hr.mem (hO _ G) (k:=(bu (turned q t),r.2.o1)) ?_ (h.snd _ hk v hv);rw[kX hr.k3];have C:=cO hq a0 c0 t;rw[<- b7 hq a0 c0 ht B,lV C (by split<;>assumption) (by split<;>assumption) B];exact KF.mpr rfl
 have hc1:=hr.c1;have hc9:=hr.c9;obtain⟨p1,p2⟩:=h.pos _ hk v hv;generalize gE q r t=k' at g m ⊢;generalize hv':v+r.2.c=v' at m ⊢;cases o:hX tb k' v' with
 |false=>
  have e:dU tb k' v'=tb:=by unfold dU;rw[o];rfl
  rw[e];exact⟨h.op (λk hk=>hk.elim id λx=>q0Q x.1 (by simp)) λk v l p _=>q0Q (.inl l) p,by simp⟩
 |true=>
  have d:=xc tb k' v';have hcl:=EO d (CK q ns);have b:aH (dU tb k' v') k'=some v':=by rw[ji,q07 ⟨rfl,o⟩]
  have D:=hZ (CK q ns) (dU tb k' v');rw[sj]at D;have j:∀w,aH tb k'=some w->v'<w:=λw i=>by
   unfold hX at o;rw[i]at o
   simpa using o
  have n:aH tb k'=none->nW (CK q ns) tb+1<=nW (CK q ns) (dU tb k' v'):=λJ=>CV d g J b;have z:v'<=((M+9*nW (CK q ns) (dU tb k' v'):Nat):Int):=by
   cases i:aH tb k' with
   |none=>have:=n i;omega
   |some w=>
    have h1:=j w i;have h2:=(h.pos _ g w i).2;omega
  refine⟨⟨Ay h.nd,h.le.trans d,λk hk=>?_,λk hk w e=>?_,λk hk w e p=>?_,λk l=>?_,λk hk w e=>?_,?_⟩,?_⟩
  ·rw[tE λe=>hk (by rw[e];exact g)];exact h.out k hk
  ·rcases tR e with e | ⟨rfl,rfl⟩
   ·exact h.snd k hk w e
   ·exact m
  ·have I:k≠k':=λe=>p (.inr ⟨rfl,e⟩)
   rw[tE I]at e;exact(h.sett k hk w e λl=>p (.inl l)).le d
  ·rcases l with l | ⟨_,rfl⟩
   ·obtain⟨h1,w,h2⟩:=h.opk k l
    obtain⟨y,_,L⟩:=d k w h2;exact⟨h1,y,L⟩
   ·exact⟨g,v',b⟩
  ·rcases tR e with e | ⟨rfl,rfl⟩
   ·have:=h.pos k hk w e
    exact⟨this.1,⋯⟩
   ·exact⟨⋯,z⟩
  ·have h1:=yp tb k' v'
   have h2:=h.len;cases i:aH tb k' with
   |none=>rw[i]at h1;have:=n i;simp at h1;omega
   |some w=>rw[i]at h1;simp at h1;omega
  ·rw[q07 rfl]
   refine rS (x:=k') (λx _=>?_) g ?_
   ·unfold DP
    cases u:aH tb x with
    |none=>
     by_cases e:x=k'
     ·subst e;rw[b]
      show v'.toNat<=_;simp only;omega
     ·rw[tE e,u];exact K4 _
    |some w=>
     obtain⟨y,l1,O⟩:=d x w u;rw[O];show y.toNat<=w.toNat;omega
   ·unfold DP
    rw[b];cases u:aH tb k' with
    |none=>show v'.toNat<_;simp only;omega
    |some w=>
     have:=j w u;show v'.toNat<w.toNat;omega
theorem TI.mu{trs:Yaa}{ns:List (List Nat)}{L0:Nat}{tb0:Tb}{op:Ky->Prop}(h:TI trs rs q ns M L0 tb0 tb op)(h8:ns.length<=8):E9 (CK q ns) (M+576) tb<=(M+577)*64:=by
 have h64:=hZ (CK q ns) tb;have hl:=sj q ns;have h1:E9 (CK q ns) (M+576) tb<=(M+577)*(CK q ns).length:=nQ λx a=>by
  unfold DP;cases b:aH tb x with
  |none=>exact K4 _
  |some v=>
   have:=(h.pos x a v b).2;show v.toNat<=_;omega
 exact K' h1 (Nat.mul_le_mul_left _ ⋯)
theorem TI.len64{trs:Yaa}{ns:List (List Nat)}{L0:Nat}{tb0:Tb}{op:Ky->Prop}(h:TI trs rs q ns M L0 tb0 tb op)(h8:ns.length<=8):tb.length<=L0+64:=by
 have h64:=hZ (CK q ns) tb;have hl:=sj q ns;have:=h.len;omega
def kY(rs:Yaa)(n:Nat):List Nat:=match rs[n]? with
 |some r=>r.2.n
 |none=>[]
def pR(rs:Yaa)(p:aL)(tb:Tb)(ys:List (Int×Nat×List Ky)):Tb:=ys.foldl (λtb y=>dU tb (bu p,kY rs y.2.1) y.1) tb
def FQ(rs:Yaa)(ns:LA)(p:aL)(tb:Tb):Tb:=pR rs p tb (ns.flatMap (cW (aH tb) rs p))
structure HF(rs:Yaa)(p:aL)(tb tb':Tb)(ys:List (Int×Nat×List Ky)):Prop where
 le:uC tb tb'
 out:∀k:Ky,k.1≠bu p->aH tb' k=aH tb k
 all:∀y∈ys,∃v',v'<=y.1/\aH tb' (bu p,kY rs y.2.1)=some v'
 val:∀k v,aH tb' k=some v->aH tb k=some v\/∃y∈ys,k=(bu p,kY rs y.2.1)/\v=y.1
 len:tb'.length<=tb.length+ys.length
 nd:(tb.map (·.1)).Nodup->(tb'.map (·.1)).Nodup
theorem k8(rs:Yaa)(p:aL):∀(ys:List (Int×Nat×List Ky)) (tb:Tb),HF rs p tb (pR rs p tb ys) ys
 | [],tb=>⟨uC.refl _,λ_ _=>rfl,(λy hy=>nomatch hy),λk v h=>.inl h,K4 _,id⟩
 |y::ys,tb=>by
  have ih:=k8 rs p ys (dU tb (bu p,kY rs y.2.1) y.1);have e:pR rs p tb (y::ys)=pR rs p (dU tb (bu p,kY rs y.2.1) y.1) ys:=rfl;rw[e];refine⟨(xc _ _ _).trans ih.le,λk hk=>?_,λz hz=>?_,λk v h=>?_,?_,λnd=>ih.nd (Ay nd)⟩
  ·rw[ih.out k hk,tE λq=>hk (by rw[q])]
  ·rcases KU.mp hz with rfl | hz
   ·obtain⟨v,l1,e1⟩:=yl tb (bu p,kY rs z.2.1) z.1
    obtain⟨v',l2,e2⟩:=ih.le _ _ e1;exact⟨v',Int.le_trans l2 l1,e2⟩
   ·exact ih.all z hz
  ·rcases ih.val k v h with h | ⟨z,hz,e1,e2⟩
   ·rcases tR h with h | ⟨e1,e2⟩
    ·exact .inl h
    ·exact .inr ⟨y,q0B ..,e1,e2⟩
   ·exact .inr ⟨z,KW _ hz,e1,e2⟩
  ·have h1:=ih.len
   have h2:=yp tb (bu p,kY rs y.2.1) y.1;rw[KP]
   split at h2<;>omega
theorem qw{ns:LA}{y:Int×Nat×List Ky}(h:y∈ns.flatMap (cW T rs p)):y.2.1∈ns/\∃r,rs[y.2.1]?=some r/\y.2.2∈bR r p/\bS T r.2.c y.2.2=some y.1:=by
 obtain⟨n,d,a⟩:=List.mem_flatMap.mp h;unfold cW at a;cases hr:rs[n]? with
 |none=>rw[hr]at a;exact nomatch a
 |some r=>
  rw[hr]at a;unfold vS at a;obtain⟨w,b,e⟩:=List.mem_filterMap.mp a;obtain⟨c,g,rfl⟩:=K8.mp e;exact⟨d,r,hr,b,g⟩
theorem yK{rs:Yaa}{ns:LA}{n:Nat}{r:Nat×RV}{w:List Ky}{v:Int}(hn:n∈ns)(hr:rs[n]?=some r)(hw:w∈bR r p)(hc:bS T r.2.c w=some v):(v,n,w)∈ns.flatMap (cW T rs p):=by
 refine List.mem_flatMap.mpr ⟨n,hn,?_⟩;unfold cW;rw[hr];exact List.mem_filterMap.mpr ⟨w,hw,by rw[hc];rfl⟩
theorem jT{rs:Yaa}(hp:iF p a c)(hg:∀r∈rs,r.1<4):∀ns:List Nat,(ns.flatMap (cW T rs p)).length<=6*ns.length
 | []=>K4 _
 |n::ns=>by
  have ih:=jT (T:=T) hp hg ns;rw[List.flatMap_cons,K3,KP];have:(cW T rs p n).length<=6:=by
   unfold cW;cases hr:rs[n]? with
   |none=>exact K5 _
   |some r=>exact K' (List.length_filterMap_le _ _) (k9 (hg r (KH hr)) hp)
  omega
def pta(rs:Yaa)(ns:LA)(q:aL)(tb:Tb):Nat->Tb
 |0=>tb
 |n+1=>FQ rs ns (turned q n) (pta rs ns q tb n)
def eY(rs:Yaa):List Nat:=rs.zipIdx.filterMap λx=>if x.1.1=3 then none else some x.2
theorem kh{n:Nat}:n∈eY rs↔∃r,rs[n]?=some r/\r.1≠3:=by
 unfold eY;rw[List.mem_filterMap]
 constructor
 ·rintro⟨⟨r,i⟩,hm,e⟩
  have hi:=List.mem_zipIdx_iff_getElem?.mp hm
  split at e
  ·cases e
  ·rename_i h
   injection e with e
   subst e;exact⟨r,hi,h⟩
 ·rintro⟨r,hr,h⟩
  exact⟨(r,n),List.mem_zipIdx_iff_getElem?.mpr hr,by rw[q06 h]⟩
def oO(rs:Yaa):Yaa:=rs.filter λr=>decide (r.1=3)
structure C8(rs:Yaa)(ns:LA)(q:aL)(tb0 tb:Tb)(n:Nat):Prop where
 le:uC tb0 tb
 out:∀k:Ky,(∀t,t<8->k.1≠bu (turned q t))->aH tb k=aH tb0 k
 all:∀t,t<n->∀m∈ns,∀r,rs[m]?=some r->∀w∈bR r (turned q t),∀v,bS (aH tb0) r.2.c w=some v->∃v',v'<=v/\aH tb (bu (turned q t),r.2.n)=some v'
 val:∀k v,aH tb k=some v->aH tb0 k=some v\/∃t,t<8/\∃r∈rs,r.1≠3/\∃w∈bR r (turned q t),bS (aH tb0) r.2.c w=some v/\k=(bu (turned q t),r.2.n)
 len:tb.length<=tb0.length+6*ns.length*n
 nd:(tb0.map (·.1)).Nodup->(tb.map (·.1)).Nodup
theorem uZ{rs:Yaa}{n:Nat}{r:Nat×RV}(h:rs[n]?=some r):kY rs n=r.2.n:=by unfold kY;rw[h]
theorem u_{rs:Yaa}{tb0:Tb}{a c:Nat}(hg:∀r∈rs,r.1<4)(h6:∀t,t<8->∃a c,iF (turned q t) a c)
  (hK:∀t,t<8->∀r∈rs,r.1≠3->∀w∈bR r (turned q t),∀k∈w,∀t',t'<8->k.1≠bu (turned q t')):∀n,n<=8->C8 rs (eY rs) q tb0 (pta rs (eY rs) q tb0 n) n
 |0,_=>⟨uC.refl _,λ_ _=>rfl,λt ht=>q0Q ht (Nat.not_lt_zero _),λk v h=>.inl h,by simp[pta],id⟩
 |n+1,hn=>by
  have ih:=u_ (tb0:=tb0) (a:=a) (c:=c) hg h6 hK n ⋯;have e:pta rs (eY rs) q tb0 (n+1)=FQ rs (eY rs) (turned q n) (pta rs (eY rs) q tb0 n):=rfl;rw[e];generalize pta rs (eY rs) q tb0 n=tb at ih ⊢;unfold FQ;have ps:=k8 rs (turned q n) ((eY rs).flatMap (cW (aH tb) rs (turned q n))) tb;obtain⟨a',c',h6'⟩:=h6 n ⋯;have hl:=jT (T:=aH tb) h6' hg (eY rs);have same:∀{r:Nat×RV},r∈rs->r.1≠3->∀{w:List Ky},w∈bR r (turned q n)->bS (aH tb) r.2.c w=bS (aH tb0) r.2.c w:=fun{r} hr h3 {w} hw=>i6 λk hk=>ih.out k λt' ht'=>hK n ⋯ r hr h3 w hw k hk t' ht';refine⟨ih.le.trans ps.le,λk hk=>?_,λt ht m hm r hr w hw v hv=>?_,λk v h=>?_,?_,λnd=>ps.nd (ih.nd nd)⟩
  ·rw[ps.out k (hk n ⋯)];exact ih.out k hk
  ·by_cases et:t=n
   ·subst et
    obtain⟨r',hr',h3⟩:=kh.mp hm;rw[hr]at hr';cases hr'
    obtain⟨v',l',e'⟩:=ps.all _ (yK (v:=v) hm hr hw (by rw[same (KH hr) h3 hw];exact hv));rw[show kY rs m=r.2.n from uZ hr]at e';exact⟨v',l',e'⟩
   ·obtain⟨v1,l1,e1⟩:=ih.all t ⋯ m hm r hr w hw v hv
    obtain⟨v2,l2,e2⟩:=ps.le _ _ e1;exact⟨v2,Int.le_trans l2 l1,e2⟩
  ·rcases ps.val k v h with h | ⟨y,hy,e1,e2⟩
   ·exact ih.val k v h
   ·obtain⟨h1,r,h2,h3,h4⟩:=qw hy
    obtain⟨r',hr',h5⟩:=kh.mp h1;rw[h2]at hr';cases hr'
    have hm:=KH h2;rw[uZ h2]at e1;exact .inr ⟨n,⋯,r,hm,h5,_,h3,by rw[<- same hm h5 h3,h4,e2],e1⟩
  ·have h1:=ps.len
   have h2:=ih.len;rw[Nat.mul_add];omega
theorem ie(hq:rect q a c)(a0:0<a)(c0:0<c)(t:Nat):bM (turned q t)=bM q:=by
 have b:=cO hq a0 c0 t;unfold bM;rw[b.1,bf b (by split<;>assumption),hq.1,bf hq a0]
 split
 ·rfl
 ·rw[Nat.mul_comm]
theorem DT(hq:rect q a c)(a0:0<a)(c0:0<c){k1 k2:Ky}(hw:[k1,k2]∈bR r q):∃q1 q2,(∃t l b x,t<b/\b<=a/\l<x/\x<=c/\q1=cut q t l b x)/\(∃t l b x,t<b/\b<=a/\l<x/\x<=c/\q2=cut q t l b x)/\k1.1=bu q1/\k2.1=bu q2/\bM q1+bM q2=bM q:=by
 have d:∀{t l b x:Nat},t<b->b<=a->l<x->x<=c->bM (cut q t l b x)=(b-t)*(x-l):=by
  intro t l b x h1 h2 o n;have k:=cI hq h1 h2 o n;unfold bM;rw[k.1,bf k ⋯]
 have all:bM q=a*c:=by unfold bM;rw[hq.1,bf hq a0]
 unfold bR at hw
 split at hw
 ·split at hw
  ·exact nomatch KF.mp hw
  ·exact nomatch hw
 ·obtain⟨m,i,e⟩:=Lm.mp hw
  unfold bU at i;obtain⟨j,g,rfl⟩:=Lm.mp i;have g:=List.mem_range.mp g;rw[bf hq a0]at g
  injection e with e1 e2
  injection e2 with e2 _
  subst e1;subst e2
  refine⟨_,_,⟨0,0,a,j+1,a0,K4 _,⋯,⋯,rfl⟩,⟨0,j+1,a,c,a0,K4 _,⋯,K4 _,rfl⟩,q0R bu (qC hq),q0R bu (qr hq),?_⟩;rw[d a0 (K4 _) ⋯ ⋯,d a0 (K4 _) ⋯ (K4 _),all,<- Nat.mul_add]
  congr 1;omega
 ·obtain⟨m,i,e⟩:=Lm.mp hw
  unfold bU at i;obtain⟨j,g,rfl⟩:=Lm.mp i;have g:=List.mem_range.mp g;rw[hq.1]at g
  injection e with e1 e2
  injection e2 with e2 _
  subst e1;subst e2
  refine⟨_,_,⟨0,0,j+1,c,⋯,⋯,c0,K4 _,rfl⟩,⟨j+1,0,a,c,⋯,K4 _,c0,K4 _,rfl⟩,q0R bu (qi hq),q0R bu (qM hq),?_⟩;rw[d ⋯ ⋯ c0 (K4 _),d ⋯ (K4 _) c0 (K4 _),all,<- Nat.add_mul]
  congr 1;omega
 ·exact nomatch KF.mp hw
structure ES(rs:Yaa)(nms:List (List Nat))(p:aL)(r c:Nat)(dn:LI)(tb:Tb):Prop where
 nd:(tb.map (·.1)).Nodup
 key:∀k v,aH tb k=some v->tx k.1∈dn/\k.2∈nms/\Dv rs k v/\1<=v
 bnd:∀k v,aH tb k=some v->∀q,ba p r c q->k.1=bu q->v+585<=1170*(bM q:Int)
 don:∀z∈dn,∃q,ba p r c q/\z=tx (bu q)
 tur:∀q,ba p r c q->tx (bu q)∈dn->∀t,t<8->tx (bu (turned q t))∈dn
 prt:∀q,ba p r c q->tx (bu q)∈dn->∀x∈rs,∀w∈bR x q,∀k∈w,tx k.1∈dn
 clo:∀q,ba p r c q->tx (bu q)∈dn->G6 rs (aH tb) q
structure iE(rs:Yaa)(nms:List (List Nat))(p:aL)(r c:Nat):Prop where
 hp:rect p r c
 r0:0<r
 c0:0<c
 r6:r<=6
 c6:c<=6
 ns:bQ p
 gd:∀x∈rs,kF x
 nm:∀x∈rs,x.2.n∈nms
 n8:nms.length<=8
 r24:rs.length<=24
theorem iE.turn3(E:iE rs nms p r c){x:Nat×RV}(h:x∈oO rs):Hq rs nms x:=by
 obtain⟨h1,h2⟩:=List.mem_filter.mp h;have h3:x.1=3:=by simpa using h2
 have g:=(E.gd x h1).good;exact⟨h1,⋯,g.c1,g.c9,g.t0,g.t7,E.nm x h1⟩
structure tM(rs:Yaa)(p:aL)(r c:Nat)(dn:LI)(q:aL):Prop where
 sq:ba p r c q
 fr:∀t,t<8->tx (bu (turned q t))∉dn
 pt:∀q',ba p r c q'->bM q'<bM q->tx (bu q')∈dn
theorem tM.parts{dn:LI}(E:iE rs nms p r c)(N:tM rs p r c dn q){t:Nat}(ht:t<8){x:Nat×RV}(hx:x∈rs)(h3:x.1≠3){w:List Ky}(hw:w∈bR x (turned q t)){k:Ky}(hk:k∈w):∃q',ba p r c q'/\k.1=bu q'/\tx k.1∈dn:=by
 have g:=E.gd x hx;obtain⟨a,b,h1,h2,i,_⟩:=N.sq.rect E.hp;obtain⟨q',d,e,h⟩:=j8 E.hp (N.sq.turned E.hp ht) g.good.t0 g.good.t7 hw hk;rcases h with h | h
 ·rw[ie h1 h2 i]at h
  exact⟨q',d,e,by rw[e];exact N.pt q' d h⟩
 ·have:=g.k4
  omega
theorem tM.notIn{nms:List (List Nat)}{dn:LI}(N:tM rs p r c dn q){k:Ky}(h:tx k.1∈dn){t:Nat}(ht:t<8):k.1≠bu (turned q t):=λe=>N.fr t ht (by rw[<- e];exact h)
theorem sr(hp:rect p r c)(r6:r<=6)(c6:c<=6)(h:ba p r c q):∃a b,iF q a b:=by
 obtain⟨a,b,h1,h2,d,h4,h5⟩:=h.rect hp;exact⟨a,b,h1,h2,⋯,d,⋯⟩
theorem ES.pta{dn:LI}(E:iE rs nms p r c)(N:tM rs p r c dn q)(S:ES rs nms p r c dn tb):∀n,n<=8->C8 rs (eY rs) q tb (pta rs (eY rs) q tb n) n:=
 u_ (a:=0) (c:=0) (λx hx=>(E.gd x hx).k4) (λt ht=>sr E.hp E.r6 E.c6 (N.sq.turned E.hp ht)) λt ht x hx h3 w hw k hk t' ht'=>by
  obtain⟨_,_,_,h⟩:=N.parts E ht hx h3 hw hk;exact N.notIn (nms:=nms) h ht'
theorem qD(hp:rect p r c)(h:ba p r c q):1<=bM q:=by
 obtain⟨a,b,h1,h2,d,_⟩:=h.rect hp;unfold bM;rw[h1.1,bf h1 h2];exact Nat.mul_pos h2 d
set_option tactic.hygienic true in
theorem ES.start{dn:LI}{tb8:Tb}(E:iE rs nms p r c)(N:tM rs p r c dn q)(S:ES rs nms p r c dn tb)(PS:C8 rs (eY rs) q tb tb8 8) :
  TI (oO rs) rs q nms (1170*bM q-1161) tb8.length tb8 tb8 (λk=>k∈CK q nms/\∃v,aH tb8 k=some v):=by
 have hcp:=qD E.hp N.sq;have new:∀k∈CK q nms,∀v,aH tb8 k=some v->Dv rs k v/\1<=v/\v<=((1170*bM q-1161:Nat):Int):=by
  intro k hk v hv;rcases PS.val k v hv with h | ⟨t,ht,x,hx,h3,w,hw,hc,rfl⟩
  ·obtain⟨t,ht,n,_,rfl⟩:=j4.mp hk
   exact q0Q (S.key _ v h).1 (N.fr t ht)
  ·have g:=(E.gd x hx).good
   have hst:=N.sq.turned E.hp ht;have g1:=g.c1;have g9:=g.c9;refine⟨xK hx (eR E.hp E.ns hst) hw hc λk hk u hu=>(S.key k u hu).2.2.1,?_⟩;rcases kN hw with rfl | ⟨k,rfl⟩ | ⟨k1,k2,rfl⟩
   ·injection hc with hc
    omega
   ·obtain⟨a,b,h1,h2,h4,_⟩:=hst.rect E.hp
    rcases qV h1 h2 h4 hw (KF.mpr rfl) with⟨t,l,b,y,k1,k2,k3,k4,k5,k6,k7⟩ | ⟨k1,_⟩
    ·exfalso
     unfold bR at hw
     split at hw
     ·split at hw
      ·exact nomatch KF.mp hw
      ·exact nomatch hw
     ·obtain⟨_,_,e⟩:=Lm.mp hw;exact nomatch e
     ·obtain⟨_,_,e⟩:=Lm.mp hw;exact nomatch e
     ·rename_i y z0 z1 z2
      rcases hh:x.1 with _ | _ | _ | n
      ·exact q0Q hh z0
      ·exact q0Q hh z1
      ·exact q0Q hh z2
      ·omega
    ·have:=(E.gd x hx).k4
     omega
   ·obtain⟨u1,u2,e1,e2,rfl⟩:=vB hc
    obtain⟨a,b,h1,h2,h4,_⟩:=hst.rect E.hp;obtain⟨q1,q2,⟨t1,l1,b1,x1,m1,m2,m3,m4,rfl⟩,⟨t2,l2,b2,x2,n1,n2,n3,n4,rfl⟩,f1,f2,f3⟩:=DT h1 h2 h4 hw;rw[ie (N.sq.rect E.hp).choose_spec.choose_spec.1 (N.sq.rect E.hp).choose_spec.choose_spec.2.1 (N.sq.rect E.hp).choose_spec.choose_spec.2.2.1]at f3;have o1:=S.bnd k1 u1 e1 _ (hst.cut E.hp h1 m1 m2 m3 m4) f1;have o2:=S.bnd k2 u2 e2 _ (hst.cut E.hp h1 n1 n2 n3 n4) f2;have p1:=(S.key k1 u1 e1).2.2.2;have p2:=(S.key k2 u2 e2).2.2.2;omega
 refine⟨PS.nd S.nd,uC.refl _,λ_ _=>rfl,λk hk v hv=>(new k hk v hv).1,λk hk v hv no=>q0Q ⟨hk,v,hv⟩ no,λk ho=>ho,λk hk v hv=>?_,Nat.le_add_right _ _⟩;have:=new k hk v hv;exact⟨this.2.1,⋯⟩
theorem ES.enter{dn dn':LI}{tb8 tb':Tb}(E:iE rs nms p r c)(N:tM rs p r c dn q)(S:ES rs nms p r c dn tb)(PS:C8 rs (eY rs) q tb tb8 8)
  (h:TI (oO rs) rs q nms (1170*bM q-1161) tb8.length tb8 tb' (λ_=>False)) (hd:∀z,z∈dn'↔z∈dn\/∃t,t<8/\z=tx (bu (turned q t))):ES rs nms p r c dn' tb':=by
 have hcp:=qD E.hp N.sq;obtain⟨a0,b0,B,y,o,_⟩:=N.sq.rect E.hp;have T:∀t,t<8->xr (turned q t):=λt d=>eR E.hp E.ns (N.sq.turned E.hp d);have ck:∀k,k∉CK q nms->∀v,aH tb' k=some v->aH tb k=some v:=λk b v j=>by
  rw[h.out k b]at j;rcases PS.val k v j with e | ⟨t,d,x,C,_,w,_,_,rfl⟩
  ·exact e
  ·exact q0Q (j4.mpr ⟨t,d,_,E.nm x C,rfl⟩) b
 have M:∀k:Ky,tx k.1∈dn->aH tb' k=aH tb k:=λk b=>by
  have nc:∀t,t<8->k.1≠bu (turned q t):=λt d=>N.notIn (nms:=nms) b d;rw[h.out k λe=>by obtain⟨t,d,n,_,rfl⟩:=j4.mp e;exact nc t d rfl,PS.out k nc]
 have h64:=hZ (CK q nms) tb';have hl:=sj q nms;have n8:=E.n8;have L:∀{i:aL},ba p r c i->tx (bu i)∈dn'->tx (bu i)∈dn\/∃t,t<8/\i=turned q t:=fun{i} l I=>by
  rcases(hd _).mp I with h | ⟨t,d,e⟩
  ·exact .inl h
  ·exact .inr ⟨t,d,(eR E.hp E.ns l).inj (T t d) (tx_inj e)⟩
 refine⟨h.nd,λk v j=>?_,λk v j i l e=>?_,λz I=>?_,λi l I t d=>?_,λi l I x C w D k b=>?_,λi l I x C w D v j=>?_⟩
 ·by_cases b:k∈CK q nms
  ·obtain⟨t,d,n,hn,rfl⟩:=j4.mp b
   exact⟨(hd _).mpr (.inr ⟨t,d,rfl⟩),hn,h.snd _ b v j,(h.pos _ b v j).1⟩
  ·obtain⟨k1,k2⟩:=S.key k v (ck k b v j)
   exact⟨(hd _).mpr (.inl k1),k2⟩
 ·by_cases b:k∈CK q nms
  ·have:=(h.pos _ b v j).2
   obtain⟨t,d,n,hn,rfl⟩:=j4.mp b;have Y:=(T t d).inj (eR E.hp E.ns l) e;rw[<- Y,ie B y o];omega
  ·exact S.bnd k v (ck k b v j) i l e
 ·rcases(hd z).mp I with h1 | ⟨t,d,rfl⟩
  ·exact S.don z h1
  ·exact⟨_,N.sq.turned E.hp d,rfl⟩
 ·rcases L l I with h1 | ⟨u,G,rfl⟩
  ·exact(hd _).mpr (.inl (S.tur i l h1 t d))
  ·exact(hd _).mpr (.inr ⟨after u t,gG G d,by rw[b7 B y o G d]⟩)
 ·rcases L l I with h1 | ⟨u,G,rfl⟩
  ·exact(hd _).mpr (.inl (S.prt i l h1 x C w D k b))
  ·have g:=(E.gd x C).good
   by_cases U:x.1=3
   ·rw[kX ⋯]at D
    rw[KF.mp D]at b;rw[KF.mp b];have R:df x.2.t.toNat<8:=jb (by have:=g.t0;have:=g.t7;omega);exact(hd _).mpr (.inr ⟨after u (df x.2.t.toNat),gG G R,by rw[b7 B y o G R]⟩)
   ·obtain⟨_,_,_,h5⟩:=N.parts E G C U D b
    exact(hd _).mpr (.inl h5)
 ·rcases L l I with h1 | ⟨u,G,rfl⟩
  ·rw[i6 (T':=aH tb) λk b=>M k (S.prt i l h1 x C w D k b)]at j
   rw[M (bu i,x.2.n) h1];exact S.clo i l h1 x C w D v j
  ·have g:=(E.gd x C).good
   by_cases U:x.1=3
   ·have J:x.2.t.toNat<8:=by have:=g.t0;have:=g.t7;omega
    have R:df x.2.t.toNat<8:=jb J;rw[kX ⋯]at D;rw[KF.mp D]at j;obtain⟨a,ha,rfl⟩:=nU j;have O:=gG G R;have Z:=cO B y o u;have et:turned (turned q u) (df x.2.t.toNat)=turned q (after u (df x.2.t.toNat)):=b7 B y o G R;rw[et]at ha
    by_cases b:(bu (turned q (after u (df x.2.t.toNat))),x.2.o1)∈CK q nms
    ·obtain⟨v',l',Y⟩:=h.sett _ b a ha id x (List.mem_filter.mpr ⟨C,by simpa using U⟩) rfl _ O rfl
     refine⟨v',⋯,?_⟩;have e2:turned q (after (after u (df x.2.t.toNat)) x.2.t.toNat)=turned q u:=by
      rw[<- b7 B y o O J,<- et,b7 Z (by split<;>assumption) (by split<;>assumption) R J,wD J,lW]
     unfold gE at Y;rw[e2]at Y;exact Y
    ·exact q0Q (S.key _ a (ck _ b a ha)).1 (N.fr _ O)
   ·have hc:bS (aH tb) x.2.c w=some v:=by
     rw[<- j];exact i6 λk b=>by
      obtain⟨_,_,_,h5⟩:=N.parts E G C U D b;exact(M k h5).symm
    obtain⟨m,hm⟩:=List.mem_iff_getElem?.mp C;obtain⟨v1,l1,e1⟩:=PS.all u G m (kh.mpr ⟨x,hm,U⟩) x hm w D v hc;obtain⟨v2,l2,e2⟩:=h.le _ _ e1;exact⟨v2,Int.le_trans l2 l1,e2⟩
abbrev sT:Stmt:=fS 53
inductive pG(vs:List V)(H:Hp)(Q:VK)(_E:XK):Prop
 |mk (d b:Addr) (tb:Tb) (k:Ky) (v:Int) (_:vs=[.ref d,.ref b,.int v]) (_:cv H d tb) (_:bD H b k) (_:tb.length<sizeLine) (_:∀H',cv H' d (dU tb k v)->bp d H H'->Q (.bl (hX tb k v)) H')
theorem AA:aI ["told","key","cost"] ["told","key","cost"] (ax sT):=by walk_at "c"
theorem BD{f:Addr}(F:dw K "lower" "lower" sT f fd)(nb:NB mg):↑bC 1 f fd ["told","key","cost"] pG:=by
 have sc:=AA;walk_at "f"
 ·obtain⟨d,b,tb,k,v,rfl,m,n,o,q⟩:=h
  have l:=m.told.get n;have j:=hr.units;have fin:hX tb k v=true->∀H2,H2=aE H d (.dT (dE (tb.map dj) (gM k) (.int v)))->Q (.bl true) H2:=λa H2 e=>by
   have p:dU tb k v=kb tb k v:=by unfold dU;rw[q07 a]
   have:=q H2 (by rw[p,e,vh];exact af) (by rw[e];exact(bp.of λ_ _ h=>h).put)
   rwa [a]at this
  have c:wJ H d (.ref b) (.int v) (aE H d (.dT (dE (tb.map dj) (gM k) (.int v)))):=wJ.t m n (by rw[KD];exact o);refine⟨_,(ae (bX (PW.pt (gw (rW (xp (Lk (Lo (by decide:1<=64) _) j) (ar 1) (ar 0)) (by with_unfolding_all rfl)) (fu (aQ (bE.m0 rp) (i8 (Lk (Lo (by decide:1<=64) _) j) (ar 0) (ar 1) (λ_ _=>rfl)) (ar 2) (a_ _)))))
   (ai (aP iA))
   bj)
   (ae (kt (Lk (Lo (by decide:1<=64) _) j) (ar 0) (ar 1) (ar 2) rfl)
   (ai (aP iA)))),?_⟩
  symm;refine⟨_,l,?_⟩;cases i:aH tb k with
  |none=>
   rw[q06 (by simp)];refine h1 _ _ ?_;ext;exact⟨_,c,fin (by unfold hX;rw[i]) _ rfl⟩
  |some u=>
   rw[i]at l;rw[q07 (by rfl)];refine⟨_,l,u,rfl,?_⟩
   by_cases g:u<=v
   ·rw[q07 g]
    have a:hX tb k v=false:=by unfold hX;rw[i];simp;omega
    have:=q H (by unfold dU;rw[a];exact m) (bp.of λ_ _ h=>h)
    rwa [a]at this
   ·rw[q06 g]
    refine h1 _ _ ?_;ext;exact⟨_,c,fin (by unfold hX;rw[i];simp;omega) _ rfl⟩
abbrev fH:Stmt:=fS 52
inductive iy(R:RC)(CG CC:Addr)(vs:List V)(H:Hp)(Q:VK)(_E:XK):Prop
 |mk (g dx ln cu d:Addr) (sg st:LA) (as:LD) (rs:Yaa) (ns:LA) (p:aL) (r c:Nat) (tb:Tb) (_:vs=[.ref g,.ref ln,.ref cu,.ref d]) (_:dM R H CG dx g sg st as rs) (_:(∀r∈rs,kF r)) (_:H ln=some (.lst (vJ ns))) (_:(∀n∈ns,n<rs.length)) (_:ns.length<=100) (_:eZ CC H cu p) (_:iF p r c) (_:cv H d tb) (_:tb.length<=10000000) (_:∀H',cv H' d (FQ rs ns p tb)->bp d H H'->Q .non H')
theorem mR:aI ["grammar","numbers","cuts","told","cost","number","way"] ["grammar","numbers","cuts","told"] (ax fH):=by walk_at "c"
theorem mL{f:Addr}(F:dw K "put_together" "put_together" fH f fd)(nb:NB mg)(rk:lx K R)(clC:jF K CC)(naC:D9 K CC)(yah:↑jp 1 CG "rule" ["self","k"] (fm R CG))(yaq:↑dP 6 "coming" ["grammar","numbers","cuts","told"] (qm R CG CC))(yag:↑dP 1 "lower" ["told","key","cost"] pG):↑bC 7 f fd ["grammar","numbers","cuts","told"] (iy R CG CC):=by
 have sc:=mR;walk_at "f"
 ·obtain⟨g,dx,ln,cu,d,sg,st,as,a,ns,p,r,c,tb,rfl,hG,hg,a5,G,o,hC,hp,hT,htl,q⟩:=h
  have hu:=hr.units;refine⟨_,(ai (aS PassesOwn.never rfl (bG (q00 yaq hr (ac (ar 0) (ac (ar 1) (ac (ar 2) (ac (ar 3) ad)))))) (ip (n:=3) rfl (bh (q02 4 sc.nd) (bh (q02 5 sc.nd) (bh (q02 6 sc.nd) dD))))
   (ai (bg (q00 yag hr (ac (ar 3) (ac (bO (ac (cK (ar 2) rfl) (ac (cK (rM yah (hr.mono (by decide)) aO (ar 0) (ac (ar 5) ad)) rfl) ad))) (ac (ar 4) ad)))))))),?_⟩
  ext;refine⟨g,dx,ln,cu,d,sg,st,as,a,ns,p,r,c,aH tb,rfl,hG,hg,a5,G,o,hC,hp,hT.told,λl H1 hl hL M=>?_⟩;obtain⟨bs,hb,hA⟩:=hL;have u:cv H1 d tb:=hT.up M;have a9:=hG.up M;have b0:=hC.up M;have a0:=jT (T:=aH tb) hp (λr hr=>(hg r hr).k4) ns;have z:∀y∈ns.flatMap (cW (aH tb) a p),y.2.1∈ns:=λy O=>(qw O).1;have a4:FQ a ns p tb=pR a p tb (ns.flatMap (cW (aH tb) a p)):=rfl;rw[a4]at q;generalize ns.flatMap (cW (aH tb) a p)=ys at hA a0 z q;have a7:=hA.1;refine⟨l,rfl,⟨_,aN.of hb⟩,?_⟩;refine bW (xs:=bs.map V.ref) (λi σ v=>bp d H1 v/\cv v d (pR a p tb (ys.take i))/\i<=bs.length/\∃Y U S,σ=[some (V.ref g),some (V.ref ln),some (V.ref cu),some (V.ref d),Y,U,S]) ⟨bp.of λ_ _ h=>h,u,K5 _,_,_,_,rfl⟩ (λi σ v _ h=>aN.of ((h.1.kp u).lst hb)) ?_ ?_
  ·rintro i x σ v hx ⟨L,k,_,Y,U,S,rfl⟩
   rw[KG]at hx;obtain⟨b,I,rfl⟩:=K8.mp hx;have hi:=(KA.mp I).1;obtain⟨y,O,a1⟩:=hA.get I;have kp:=L.kp u;obtain⟨lw,a8,_⟩:=a1.kp kp;obtain⟨j,m⟩:∃j,a[y.2.1]?=some j:=⟨_,Kz (G _ (z y (KH O)))⟩;have J:=a9.kp kp;obtain⟨dxc,lp,lb,la,a6,_⟩:=b0.kp kp;obtain⟨lk,pn,t0,ha,hkk,C,hN,hmm⟩:=id J;obtain⟨ra,D⟩:∃b,as[y.2.1]?=some b:=⟨_,Kz (by rw[C.1];exact(KA.mp m).1)⟩;obtain⟨rdx,rl,a3,_⟩:=C.2 _ ra j D m;ext;refine⟨_,dO.of a8,rfl,_,_,rfl,_,_,rfl,_,_,rfl,rfl,?_⟩;refine⟨_,_,_,a6,clC,naC.2.1,_,rfl,dx,_,ha,rfl,g,dx,sg,st,as,a,y.2.1,ra,rfl,J,D,?_⟩;refine⟨ra,rfl,_,_,_,a3,(rk.icls j.1).cl,(rk.name j.1).1,_,(ja rl j.2 j.1).1,az (by decide),λtp B=>?_⟩;have hps:=(k8 a p (ys.take i) tb).len;have htk:(ys.take i).length<=ys.length:=by rw[Lg];omega
   refine⟨d,tp,pR a p tb (ys.take i),(bu p,j.2.n),y.1,rfl,k.up (ao B),af,?_,λH2 a2 Z=>⟨L.trans ((bp.of (ao B)).trans Z),?_,hi⟩⟩
   ·have:=q0W;omega
   ·have e:pR a p tb (ys.take (i+1))=dU (pR a p tb (ys.take i)) (bu p,j.2.n) y.1:=by
     unfold pR;rw[q0E,O,List.foldl_append];show dU _ (bu p,kY a y.2.1) y.1=_;rw[show kY a y.2.1=j.2.n by unfold kY;rw[m]]
    rw[e];exact a2
  ·rintro σ v ⟨L,k,_,Y,U,S,rfl⟩
   rw[KD,a7,Lf]at k;exact q v k ((bp.of M).trans L)
abbrev sS:Stmt:=fS 20
inductive uc(vs:List V)(H:Hp)(Q:VK)(_E:XK):Prop
 |mk (t u:Nat) (_:vs=[.int (t:Int),.int (u:Int)]) (_:t<8) (_:u<8) (_:Q (.int (after t u:Nat)) H)
theorem AK:aI ["t","u"] ["t","u"] (ax sS):=by walk_at "c"
theorem AG{f:Addr}(F:dw K "after" "after" sS f fd):↑bC 1 f fd ["t","u"] uc:=by
 have sc:=AK;walk_at "f"
 ·obtain⟨t,u,rfl,ht,hu,q⟩:=h
  refine⟨_,(ae (bX (aQ qQ (pv 1) aj (a_ _))
   (ai (aP (ay bK (ay eD (ay bc (pv 0) aj) aj) (ay aZ (ay bK (pv 0) (pv 1)) aj))))
   bj)
   (ai (aP (ay bK (ay eD (ay iX aj (ay bc (pv 0) aj)) aj) (ay aZ (ay iX (pv 1) (pv 0)) aj))))),?_⟩
  ext
  split
  ·have e:((after t u:Nat):Int)=(t:Int)/4*4+((t:Int)+u)%4:=by unfold after;rw[q07 ⋯];omega
   rw[<- e];exact q
  ·have e:((after t u:Nat):Int)=(1-(t:Int)/4)*4+((u:Int)-t)%4:=by unfold after;rw[q06 ⋯];omega
   rw[<- e];exact q
theorem aW.app{β:Type}{A:Hp->Addr->β->Prop}:∀{bs2:LD} {ys2:List β} {bs:LD} {ys:List β},aW A H bs ys->aW A H bs2 ys2->aW A H (bs++bs2) (ys++ys2)
 | [],[],bs,ys,h,_=>by rw[Lc,Lc];exact h
 | [],_::_,_,_,_,h2=>nomatch h2.1
 |_::_,[],_,_,_,h2=>nomatch h2.1
 |b::bs2,y::ys2,bs,ys,h,h2=>by
  have h3:aW A H bs2 ys2:=⟨Nat.succ.inj h2.1,λi c z e1 e2=>h2.2 (i+1) c z e1 e2⟩;have:=aW.app (h.snoc (h2.2 0 b y rfl rfl)) h3
  rwa [Ld,Ld]at this
theorem AN{H:Hp}{Q:VK}{neg:Bool}(ha:H a=some (.lst xs))(hb:H b=some (.lst []))(q:Q (.bl (xs.isEmpty != neg)) H):DL K neg (.ref a) (.ref b) H Q:=by
 cases xs with
 |nil=>
  refine .inl ⟨[],by unfold Dt.deps;omega,.inl ⟨?_,?_⟩,by simpa using q⟩
  ·unfold kK;exact⟨a,_,rfl,aN.of ha,by unfold fQ;rfl⟩
  ·unfold kK;exact⟨b,_,rfl,aN.of hb,by unfold fQ;rfl⟩
 |cons x xs=>exact .inr ⟨a,b,_,_,rfl,rfl,aN.of ha,aN.of hb,by simp,by simpa using q⟩
def fq(q:aL):List Str:=(List.range 8).map λt=>tx (bu (turned q t))
def jE(q:aL)(ns:List (List Nat))(tb:Tb)(n:Nat):List Ky:=((List.range n).flatMap λt=>ns.map λn=>(bu (turned q t),n)).filter λk=>(aH tb k).isSome
theorem pI(q:aL)(ns:List (List Nat))(tb:Tb)(n:Nat):jE q ns tb (n+1)=jE q ns tb n++ns.filterMap λm=>if(aH tb (bu (turned q n),m)).isSome=true then some (bu (turned q n),m) else none:=by
 unfold jE;rw[q0M,List.flatMap_append,List.filter_append]
 congr 1
 rw[show([n].flatMap λt=>ns.map λn=>(bu (turned q t),n))=ns.map λm=>(bu (turned q n),m) by simp]
 induction ns with
 |nil=>rfl
 |cons m ns ih=>
  rw[K_,List.filter_cons,q0U];cases h:(aH tb (bu (turned q n),m)).isSome with
  |true=>simp only[q07];rw[ih]
  |false=>simp only[q0a,if_false];exact ih
theorem kL(q:aL)(ns:List (List Nat))(tb:Tb):∀n,(jE q ns tb n).length<=n*ns.length
 |0=>by simp[jE]
 |n+1=>by
  rw[pI,K3,Nat.add_mul,Nat.one_mul];exact Nat.add_le_add (kL q ns tb n) (List.length_filterMap_le _ _)
theorem qO{ns:List (List Nat)}{k:Ky}:k∈jE q ns tb 8↔k∈CK q ns/\∃v,aH tb k=some v:=by
 unfold jE;rw[List.mem_filter,Option.isSome_iff_exists];rfl
theorem uR{z:Str}:∀{ts:LI},z∈ts->∃j:Nat,ts[j]?=some z/\∀(m:Nat) (y:Str),m<j->ts[m]?=some y->y≠z
 | [],h=>nomatch h
 |x::ts,h=>by
  by_cases e:x=z
  ·exact⟨0,by rw[e];rfl,λm y hm=>q0Q hm (Nat.not_lt_zero _)⟩
  ·rcases KU.mp h with h | h
   ·exact q0Q h.symm e
   ·obtain⟨j,h1,h2⟩:=uR h
    refine⟨j+1,h1,λm y hm hy=>?_⟩;cases m with
    |zero=>rw[List.getElem?_cons_zero]at hy;cases hy;exact e
    |succ m=>exact h2 m y ⋯ hy
theorem E_{t:Nat}{z:Str}(h:(fq q)[t]?=some z):t<8/\z=tx (bu (turned q t)):=by
 unfold fq at h;rw[KG]at h;obtain⟨x,a,rfl⟩:=K8.mp h;have b:=(KA.mp a).1;rw[q0J]at b;rw[List.getElem?_range b]at a;cases a;exact⟨b,rfl⟩
theorem BK{t:Nat}(h:t<8):(fq q)[t]?=some (tx (bu (turned q t))):=by
 unfold fq;rw[KG,List.getElem?_range h];rfl
inductive HR(H:Hp)(q:aL)(ns:List (List Nat))(tb0:Tb)(lr lt ln d l:Addr)(i:Nat)(H':Hp):St->Prop
 |mk (bs:LD) (x5 x6 x7 x8 x9:Option V) (_:aD H H') (_:H' l=some (.lst (bs.map V.ref))) (_:aW bD H' bs (jE q ns tb0 i)):HR H q ns tb0 lr lt ln d l i H' [some (V.ref lr),some (V.ref lt),some (V.ref ln),some (V.ref d),some (V.ref l),x5,x6,x7,x8,x9]
inductive HU(H:Hp)(trs rs:Yaa)(q:aL)(ns:List (List Nat))(M L0:Nat)(tb0:Tb)(lr lt ln d:Addr)(m:Nat)(H':Hp):St->Prop
 |mk (tb:Tb) (chs:List Ky) (l2:Addr) (cs:LD) (x5 x6 x7 x8 x9:Option V) (_:bp d H H') (_:cv H' d tb) (_:H' l2=some (.lst (cs.map V.ref))) (_:aW bD H' cs chs) (_:TI trs rs q ns M L0 tb0 tb (λk=>k∈chs)) (_:chs.length<=8000000) (_:m=E9 (CK q ns) (M+576) tb+(if chs=[] then 0 else 1)):HU H trs rs q ns M L0 tb0 lr lt ln d m H' [some (V.ref lr),some (V.ref lt),some (V.ref ln),some (V.ref d),some (V.ref l2),x5,x6,x7,x8,x9]
structure HM(trs rs:Yaa)(q:aL)(ns:List (List Nat))(M L0:Nat)(tb0 tb:Tb)(all:List Ky)(d l2 lw:Addr)(cs:LD)(H H':Hp)(i:Nat)(tb5:Tb)(ws:LD)(lws:List Ky):Prop where
 sx:bp d H H'
 l:H' l2=some (.lst (cs.map V.ref))
 cA:aW bD H' cs all
 T:cv H' d tb5
 w:H' lw=some (.lst (ws.map V.ref))
 wA:aW bD H' ws lws
 I:TI trs rs q ns M L0 tb0 tb5 (λk=>k∈all.drop i\/k∈lws)
 m:E9 (CK q ns) (M+576) tb5+lws.length<=E9 (CK q ns) (M+576) tb
inductive HN(trs rs:Yaa)(q:aL)(ns:List (List Nat))(M L0:Nat)(tb0 tb:Tb)(all:List Ky)(lr lt ln d l2 lw:Addr)(cs:LD)(H H':Hp)(i:Nat):St->Prop
 |mk (tb5:Tb) (ws:LD) (lws:List Ky) (x5 x7 x8 x9:Option V) (_:HM trs rs q ns M L0 tb0 tb all d l2 lw cs H H' i tb5 ws lws):HN trs rs q ns M L0 tb0 tb all lr lt ln d l2 lw cs H H' i [some (V.ref lr),some (V.ref lt),some (V.ref ln),some (V.ref d),some (V.ref l2),x5,some (V.ref lw),x7,x8,x9]
inductive HL(trs rs:Yaa)(q:aL)(ns:List (List Nat))(M L0:Nat)(tb0 tb:Tb)(all:List Ky)(lr lt ln d l2 lw:Addr)(cs:LD)(H:Hp)(i t:Nat)(k:Ky)(v:Int)(H':Hp)(j:Nat):St->Prop
 |mk (tb5:Tb) (ws:LD) (lws:List Ky) (x8 x9:Option V) (_:HM trs rs q ns M L0 tb0 tb all d l2 lw cs H H' i tb5 ws lws) (_:aH tb5 k=some v) (_:∀r∈trs.take j,r.2.o1=k.2->∃v',v'<=v+r.2.c/\aH tb5 (gE q r t)=some v'):HL trs rs q ns M L0 tb0 tb all lr lt ln d l2 lw cs H i t k v H' j [some (V.ref lr),some (V.ref lt),some (V.ref ln),some (V.ref d),some (V.ref l2),some (V.str (tx k.1)),some (V.ref lw),some (V.str (tx k.2)),x8,x9]
abbrev g8:Stmt:=fS 54
theorem mv{tb:TS}{σ:St}(h:∀tb',tb'=tb->tL c tb' D σ H):tL c tb D σ H:=h tb rfl
theorem zI{n:Nat}(h:n<=8000000):n<sizeLine:=by have:=q0W;omega
inductive jx(R:RC)(vs:List V)(H:Hp)(Q:VK)(_E:XK):Prop
 |mk (lr lt ln d:Addr) (as:LD) (trs rs:Yaa) (q:aL) (a c:Nat) (ns:List (List Nat)) (M L0:Nat) (tb0:Tb) (_:vs=[.ref lr,.ref lt,.ref ln,.ref d]) (_:H lr=some (.lst (as.map V.ref))) (_:bN R H as trs) (_:H lt=some (.lst ((fq q).map V.str))) (_:H ln=some (.lst (ns.map λn=>V.str (tx n)))) (_:cv H d tb0) (_:rect q a c) (_:0<a) (_:0<c) (_:(∀t,t<8->xr (turned q t))) (_:ns.length<=8) (_:(∀r∈trs,Hq rs ns r/\r.1=3)) (_:TI trs rs q ns M L0 tb0 tb0 (λk=>k∈CK q ns/\∃v,aH tb0 k=some v)) (_:M<=100000) (_:L0<=10000000) (_:∀H' tb',cv H' d tb'->TI trs rs q ns M L0 tb0 tb' (λ_=>False)->bp d H H'->Q .non H')
theorem pM:aI ["rules","texts","names","told","changed","text","lowered","name","rule","key"] ["rules","texts","names","told"] (ax g8):=by walk_at "c"
theorem pX{f:Addr}(F:dw K "turn_about" "turn_about" g8 f fd)(nb:NB mg)(rk:lx K R)(yaF:↑dP 1 "after" ["t","u"] uc)(yag:↑dP 1 "lower" ["told","key","cost"] pG):↑bC 2 f fd ["rules","texts","names","told"] (jx R):=by
 have sc:=pM;walk_at "f"
 ·obtain⟨lr,lt,ln,d,as,trs,rs,q,a,c,ns,M,L0,tb0,rfl,hlr,hrs,hlt,hln,hT,hq,a0,c0,hO,h8,hR,hTI,hM,hL0,qq⟩:=h
  have hu:=hr.units;refine⟨_,(ae (q01 4 sc.nd (bw ad))
   (ae (aS PassesOwn.never rfl (bG (ar 1)) (aw (i:=5) sc.nd rfl (Or.inr rfl))
   (ai (bg (cJ PySem.F.plainAttrs_list PySem.F.slot_list_extend PySem.F.type_list_extend zk (ar 4) (ac (cq ["name"] [5,3] rfl (bP.of (by kernel_rfl)) (by kernel_rfl) (bG (ar 2))
    (λ_ _ _ _=>(aw (i:=0) (by show(["name","text","told"]:List Str).Nodup;decide +kernel) rfl (Or.inl rfl))) (λ_ _ _ _=>(tS (rW (xp (Lk (Lo (by decide:1<=64) _) hu) (bO (ac (ar 1) (ac (ar 0) ad))) (ar 2)) (by with_unfolding_all rfl)))) (λ_ _ _ _=>(bO (ac (ar 1) (ac (ar 0) ad))))) ad)))))
   (ai (vp PassesOwn.never (aQ (rY hu) (ar 4) (bw ad) (a_ _)) (ae (q01 6 sc.nd (bw ad))
   (ae (aS PassesOwn.never rfl (bG (ar 4)) (ip (n:=2) rfl (bh (aw (i:=5) sc.nd rfl (Or.inr rfl)) (bh (q02 7 sc.nd) dD)))
   (ai (aS PassesOwn.never rfl (bG (ar 0)) (q02 8 sc.nd)
   (ae (q01 9 sc.nd (bO (ac (aY bd (ar 1) (q00 yaF hr (ac (cJ PySem.F.plainAttrs_list PySem.F.slot_list_index PySem.F.type_list_index zu (ar 1) (ac (ar 5) ad)) (ac (cK (ar 8) rfl) ad))) (λ_ _=>rfl)) (ac (cK (ar 8) rfl) ad))))
   (ai (bX (PW.pt (gw (aQ dz (cK (ar 8) rfl) (ar 7) (a_ _)) (fu (fb (q00 yag hr (ac (ar 3) (ac (ar 9) (ac (ay (bE.m0 bK) (i8 (Lk (Lo (by decide:1<=64) _) hu) (ar 3) (bO (ac (ar 5) (ac (ar 7) ad))) (λ_ _=>rfl)) (cK (ar 8) rfl)) ad)))) λ_=>rfl))))
   (ai (bg (q03 (ar 6) (ac (ar 9) ad))))
   bj))))))
   (ai (q01 4 sc.nd (ar 6))))))))),?_⟩
  symm;refine⟨K5 _,λl hl=>h1 _ _ ?_⟩;clear h1;generalize z0:aE H l _=H1;obtain⟨s1,e1⟩:=dN hl z0;symm;have hT1:cv H1 d tb0:=hT.up s1;have hcl:(fq q).length=8:=by unfold fq;rw[KD,q0J]
  refine⟨⟨_,aN.of (s1 _ _ hlt)⟩,?_⟩;refine bW (xs:=(fq q).map V.str) (λi σ H'=>HR H q ns tb0 lr lt ln d l i H' σ) (.mk [] _ _ _ _ _ s1 e1 aW.nil) (λi σ H' _ h=>by cases h with | mk _ _ _ _ _ _ s=>exact aN.of (s _ _ hlt)) ?_ ?_
  ·rintro i x σ H' hx ⟨bs,x5,x6,x7,x8,x9,sm,hb,hA⟩
   rw[KG]at hx;obtain⟨z,hz,rfl⟩:=K8.mp hx;have hi:i<8:=by have:=(KA.mp hz).1;omega
   have hz':z=tx (bu (turned q i)):=by
    unfold fq at hz;rw[KG,List.getElem?_range hi]at hz;cases hz;rfl
   subst hz';ext;refine⟨.inl ⟨rfl,_,aN.of hb⟩,⟨_,aN.of (sm _ _ hln)⟩,?_⟩;refine vg bD bD.up (as:=ns) (emb:=λn=>V.str (tx n)) (f:=λn=>if(aH tb0 (bu (turned q i),n)).isSome=true then some (bu (turned q i),n) else none) (λσ=>∃x,σ=[x,some (V.str (tx (bu (turned q i)))),some (V.ref d)]) ⟨_,rfl⟩ (λH2 s2=>aN.of (s2 _ _ (sm _ _ hln))) ⋯ ?_ ?_
   ·rintro j n hn σ H2 M1 M0 ⟨x0,rfl⟩ s2 k1 k0
    have hT2:cv H2 d tb0:=(hT.up sm).up s2;ext;refine⟨az (by decide),λtp htp=>?_⟩;generalize z0:aE H2 tp _=H3;obtain⟨s3,(hk:bD H3 tp (bu (turned q i),n))⟩:=dN htp z0;have hg:=(hT2.up s3).told.get hk;refine⟨_,hg,?_⟩;cases hv:aH tb0 (bu (turned q i),n) with
    |none=>
     rw[q06 (by simp)];exact k0 _ _ (by simp[hv]) (s2.trans s3) s3 ⟨_,rfl⟩
    |some v=>
     rw[q07 (by rfl)];exact⟨az (by decide),λt2 ht2=>k1 t2 (bu (turned q i),n) _ _ (by simp[hv]) af (s2.trans (s3.trans (ao ht2))) (s3.trans (ao ht2)) ⟨_,rfl⟩⟩
   ·intro bs2 H2 s2 hA2 l2 hl2
    generalize z0:aE H2 l2 _=H3;obtain⟨s3,e3⟩:=dN hl2 z0;have hb3:=s3 _ _ (s2 _ _ hb);have n1:=hA.1;have n2:=hA2.1;have n3:=kL q ns tb0 i;have n4:=List.length_filterMap_le (λn=>if(aH tb0 (bu (turned q i),n)).isSome=true then some (bu (turned q i),n) else none) ns;have n5:i*ns.length<=8*8:=Nat.mul_le_mul ⋯ h8;refine⟨_,hb3,_,e3,by rw[KD,KD];exact az ⋯,?_⟩;refine .mk (bs++bs2) _ _ _ _ _ (bz ((sm.trans s2).trans s3) hl) (by rw[af,KQ]) ?_;rw[pI];exact aW.app (hA.mono λb y _ _ h=>((h.up s2).up s3).put hb3) (hA2.mono λb y _ _ h=>(h.up s3).put hb3)
  ·rintro σ H' ⟨bs,x5,x6,x7,x8,x9,sm,hb,hA⟩
   refine h1 _ _ ?_;rw[KD,hcl]at hA;ext;have hTI0:=hTI.op (op':=λk=>k∈jE q ns tb0 8) (λk hk=>qO.mp hk) (λk v ho no _=>q0Q (qO.mpr ho) no);have hch:(jE q ns tb0 8).length<=8*8:=K' (kL q ns tb0 8) (Nat.mul_le_mul_left _ h8);have hT':cv H' d tb0:=hT.up sm;refine mv λtw etw=>?_;refine⟨λm σ H2=>HU H trs rs q ns M L0 tb0 lr lt ln d m H2 σ,⟨_,.mk tb0 _ l bs _ _ _ _ _ (bp.of sm) hT' hb hA hTI0 ⋯ rfl⟩,?_⟩;rintro m σ H2 ⟨tb,chs,l2,cs,y5,y6,y7,y8,y9,sx,hT2,hc2,hcA,hI,hcl2,hm⟩;ext;refine⟨K5 _,λlz hlz=>?_⟩;generalize z0:aE H2 lz _=H3;obtain⟨s3,e3⟩:=dN hlz z0;refine AN (s3 _ _ hc2) e3 ⟨_,rfl,?_⟩;cases chs with
   |nil=>
    have:cs=[]:=Ll.mp hcA.1;subst this;rw[q06 (by simp)];exact qq H3 tb (hT2.up s3) (hI.op (λk hk=>hk.elim) (λk v ho _ _=>nomatch ho)) (sx.then s3)
   |cons ch chs=>
    have hne:cs≠[]:=λe=>by rw[e]at hcA;exact nomatch hcA.1
    rw[q07 (by cases cs with | nil=>exact q0Q rfl hne | cons _ _=>rfl)];rw[etw];generalize hall:ch::chs=all at hcA hI hcl2 hm;have ya4:all≠[]:=λe=>nomatch hall.trans e;rw[q06 ya4]at hm;refine⟨_,λσ' H' h=>h,?_⟩;have hmu:=hI.mu h8;have hmu2:(M+577)*64<=8000000:=by omega
    have hT3:cv H3 d tb:=hT2.up s3;have sx3:=sx.then s3;have hc3:=s3 _ _ hc2;have hcA3:=hcA.mono λb y _ _ (h:bD H2 b y)=>h.up s3;symm;refine⟨K5 _,λlw hlw=>h1 _ _ ?_⟩;clear h1;have s4:=ao (o:=.lst []) hlw;have e4:aE H3 lw (.lst []) lw=some (.lst []):=af;have hl2w:l2≠lw:=aK hc3 hlw;have hlw0:∀o,H lw=some o->lw=d:=λo h=>by
     by_cases e:lw=d
     ·exact e
     ·have:=sx3 lw o e h
      rw[hlw]at this;cases this
    have hlwd:lw≠d:=λe=>by
     rw[e]at hlw;rw[show H3 d=_ from hT3]at hlw;cases hlw
    generalize aE H3 lw (.lst [])=H4 at s4 e4 ⊢;symm;refine⟨⟨_,aN.of (s4 _ _ hc3)⟩,?_⟩;refine bW (xs:=cs.map V.ref) (λi σ H5=>HN trs rs q ns M L0 tb0 tb all lr lt ln d l2 lw cs H H5 i σ) ?_ (λi σ H5 _ h=>by cases h with | mk _ _ _ _ _ _ _ h=>exact aN.of h.l) ?_ ?_
    ·exact .mk tb [] [] _ _ _ _ ⟨sx3.then s4,s4 _ _ hc3,hcA3.mono λb y _ _ h=>h.up s4,hT3.up s4,e4,aW.nil,hI.op (λk hk=>hk.elim id λz=>nomatch z) (λk v ho no _=>q0Q (.inl ho) no),K4 _⟩
    ·rintro i x σ H5 hx ⟨tb5,ws,lws,z5,z7,z8,z9,h5⟩
     rw[KG]at hx;obtain⟨cb,hcb,rfl⟩:=K8.mp hx;have hi:=(KA.mp hcb).1;obtain⟨k,hk,hkb⟩:=h5.cA.get hcb;have jS:=(KA.mp hk).1;have hdr:all.drop i=k::all.drop (i+1):=by
      rw[q0T jS];rw[Kz jS]at hk;cases hk;rfl
     obtain⟨hkC,v,hv⟩:=h5.I.opk k (.inl (by rw[hdr];exact q0B ..));obtain⟨t1,ht1,n1,hn1,ek⟩:=j4.mp hkC;obtain⟨t,hti,hfirst⟩:=uR (z:=tx k.1) (KH (show(fq q)[t1]?=some (tx k.1) by rw[BK ht1,ek]));obtain⟨ht,ezt⟩:=E_ hti;have ekt:k.1=bu (turned q t):=tx_inj ezt;have kp5:=h5.sx.kp hT;ext;refine⟨_,dO.of hkb,rfl,_,_,rfl,_,_,rfl,rfl,⟨_,aN.of (kp5.lst hlr)⟩,?_⟩;refine bW (xs:=as.map V.ref) (λj σ H6=>HL trs rs q ns M L0 tb0 tb all lr lt ln d l2 lw cs H i t k v H6 j σ) (.mk tb5 ws lws _ _ h5 hv (λr hr=>nomatch hr)) (λj σ H6 _ h=>by cases h with | mk _ _ _ _ _ h=>exact aN.of ((h.sx.kp hT).lst hlr)) ?_ ?_
     ·rintro j x σ H6 hx ⟨tb6,ws6,lws6,y8,y9,⟨sx6,hl6,hcA6,hT6,hw6,hwA6,hI6,hm6⟩,hv6,hs6⟩
      rw[KG]at hx;obtain⟨ra,hra,rfl⟩:=K8.mp hx;have hj:=(KA.mp hra).1;obtain⟨r,hr⟩:∃r,trs[j]?=some r:=⟨_,Kz (by rw[<- hrs.1];exact hj)⟩;obtain⟨r3,rk3⟩:=hR r (KH hr);have kp6:=sx6.kp hT;obtain⟨rdx,rl,hrb,_⟩:=(hrs.kp kp6).2 j ra r hra hr;rw[rk3]at hrb;have hrb':H6 ra=some (.ins R.ct rdx (DZ r.2.n r.2.c rl r.2.o1 r.2.t)):=hrb;have hu8:r.2.t.toNat<8:=by have:=r3.t0;have:=r3.t7;omega
      have hat:=gG ht hu8;refine aq λN1 h1=>?_;have hlt6:H6 lt=some (.lst ((fq q).map V.str)):=kp6.lst hlt;ext;refine⟨.inl ⟨rfl,_,aN.of hlt6⟩,fq q,hlt6,t,hti,hfirst,_,_,_,hrb',rk.i3.cl,rk.a3.2.2.2.2,_,rfl,t,r.2.t.toNat,by rw[Lu r3.t0],ht,hu8,(fq q).map V.str,_,rfl,aN.of hlt6,_,bI (by rw[KG,BK hat];rfl),_,_,_,hrb',rk.i3.cl,rk.a3.1,_,rfl,az (by decide),λtp htp=>h1 _ _ ?_⟩;clear h1;have s7:=ao (o:=.tup [V.str (tx (bu (turned q (after t r.2.t.toNat)))),V.str (tx r.2.n)]) htp;have hk7:bD (aE H6 tp (.tup [V.str (tx (bu (turned q (after t r.2.t.toNat)))),V.str (tx r.2.n)])) tp (gE q r t):=af;change p6 _ _ _ _ _ (aE H6 tp (.tup [V.str (tx (bu (turned q (after t r.2.t.toNat)))),V.str (tx r.2.n)]));generalize aE H6 tp (.tup [V.str (tx (bu (turned q (after t r.2.t.toNat)))),V.str (tx r.2.n)])=H7 at s7 hk7 ⊢;have hT7:=hT6.up s7;have hrb7:=s7 _ _ hrb';ext;have htk:trs.take (j+1)=trs.take j++[r]:=by rw[q0E,hr];rfl
      have hwA7:=hwA6.mono λb y _ _ (h:bD H6 b y)=>h.up s7;have hcA7:=hcA6.mono λb y _ _ (h:bD H6 b y)=>h.up s7;refine⟨_,_,_,hrb7,rk.i3.cl,rk.a3.2.2.2.1,_,rfl,rfl,?_⟩
      by_cases e:r.2.o1=k.2
      ·rw[q07 (by rw[e])]
       refine⟨az (by decide),λtq htq=>?_⟩;generalize z0:aE H7 tq _=H8;obtain⟨s8,(hk8:bD H8 tq k)⟩:=dN htq z0;have hT8:cv H8 d tb6:=hT7.up s8;have hg8:=hT8.told.get hk8;rw[hv6]at hg8;have h64:=hI6.len64 h8;have ek2:(bu (turned q t),r.2.o1)=k:=by rw[<- ekt,e]
       obtain⟨hI9,hm9⟩:=hI6.low hq a0 c0 hO h8 r3 ht (v:=v) (by rw[ek2];exact hkC) (by rw[ek2];exact hv6);refine⟨_,hg8,_,_,_,s8 _ _ hrb7,rk.i3.cl,rk.a3.2.1,_,rfl,v,rfl,r.2.c,rfl,d,tp,tb6,gE q r t,v+r.2.c,rfl,hT8,hk7.up s8,by have:=q0W;omega,λH9 hT9 sx9=>⟨_,rfl,?_⟩⟩;have kp9:=sx9.kp hT8;have hv9:aH (dU tb6 (gE q r t) (v+r.2.c)) k=some v:=by
        rw[ji]
        split
        ·rename_i hc
         obtain⟨hc1,hc2⟩:=hc;unfold hX at hc2;rw[<- hc1,hv6]at hc2;have h3:v+r.2.c<v:=by simpa using hc2
         have:=r3.c1;omega
        ·exact hv6
       have hs9:∀r'∈trs.take (j+1),r'.2.o1=k.2->∃v',v'<=v+r'.2.c/\aH (dU tb6 (gE q r t) (v+r.2.c)) (gE q r' t)=some v':=by
        intro r' hr' e';rw[htk]at hr';rcases KR.mp hr' with hr' | hr'
        ·obtain⟨v1,l1,e1⟩:=hs6 r' hr' e'
         obtain⟨v2,l2,e2⟩:=xc tb6 (gE q r t) (v+r.2.c) _ _ e1;exact⟨v2,Int.le_trans l2 l1,e2⟩
        ·rw[KF.mp hr']
         exact yl _ _ _
       have sx9':=(sx6.then (s7.trans s8)).trans sx9;have hl9:=kp9.lst (s8 _ _ (s7 _ _ hl6));have hw9:=kp9.lst (s8 _ _ (s7 _ _ hw6));have hcA9:=hcA7.mono λb y _ _ (h:bD H7 b y)=>(h.up s8).kp kp9;have hwA9:=hwA7.mono λb y _ _ (h:bD H7 b y)=>(h.up s8).kp kp9;have hk9:=(hk7.up s8).kp kp9;cases hlb:hX tb6 (gE q r t) (v+r.2.c) with
       |false=>
        rw[hlb]at hI9 hm9;rw[q06 (by simp)];refine .mk _ ws6 lws6 _ _ ⟨sx9',hl9,hcA9,hT9,hw9,hwA9,hI9.op (λx hx=>.inl hx) (λx w ho no _=>?_),by simp at hm9;omega⟩ hv9 hs9;exact q0Q (ho.elim id λz=>nomatch z.1) no
       |true=>
        rw[hlb]at hI9 hm9;rw[q07 rfl];have hwl:=hwA6.1;simp only[q07]at hm9;refine⟨.inl ⟨rfl,_,aN.of hw9⟩,_,hw9,by rw[KD];exact zI ⋯,.mk _ (ws6++[tp]) (lws6++[gE q r t]) _ _ ⟨λb o hb h=>?_,?_,?_,?_,?_,(hwA9.mono λb y _ _ h=>h.put hw9).snoc (hk9.put hw9),hI9.op (λx hx=>?_) (λx w ho no _=>?_),?_⟩ hv9 hs9⟩
        ·rw[av (show b≠lw from λz=>hb (z.trans (hlw0 o (z▸h))))];exact sx9' b o hb h
        ·rw[av hl2w];exact hl9
        ·exact hcA9.mono λb y _ _ h=>h.put hw9
        ·show aE H9 lw _ d=_
         rw[av (Ne.symm hlwd)];exact hT9
        ·rw[af,KQ];rfl
        ·rcases hx with hx | hx
         ·exact .inl (.inl hx)
         ·rcases KR.mp hx with hx | hx
          ·exact .inl (.inr hx)
          ·exact .inr ⟨rfl,KF.mp hx⟩
        ·refine q0Q ?_ no
         rcases ho with(ho | ho) | ho
         ·exact .inl ho
         ·exact .inr (q0D _ ho)
         ·exact .inr (q0C _ (KF.mpr ho.2))
        ·rw[K3,q0Z];omega
      ·rw[q06 (λh=>e (tx_inj (by injection h)))]
       refine .mk tb6 ws6 lws6 _ _ ⟨sx6.then s7,s7 _ _ hl6,hcA7,hT7,s7 _ _ hw6,hwA7,hI6,hm6⟩ hv6 λr' hr' e'=>?_;rw[htk]at hr';rcases KR.mp hr' with hr' | hr'
       ·exact hs6 r' hr' e'
       ·rw[KF.mp hr']at e'
        exact q0Q e' e
     ·rintro σ H6 ⟨tb6,ws6,lws6,y8,y9,h6,hv6,hs6⟩
      rw[KD,hrs.1,Lf]at hs6;refine .mk tb6 ws6 lws6 _ _ _ _ ⟨h6.sx,h6.l,h6.cA,h6.T,h6.w,h6.wA,h6.I.op (λx hx=>hx.elim (λh=>.inl (by rw[hdr];exact KW _ h)) .inr) (λx w ho no e=>?_),h6.m⟩;have ex:x=k:=by
       rcases ho with ho | ho
       ·rw[hdr]at ho
        rcases KU.mp ho with ho | ho
        ·exact ho
        ·exact q0Q (.inl ho) no
       ·exact q0Q (.inr ho) no
      subst ex;rw[hv6]at e;cases e;intro r hr e1 t' ht' e2;obtain⟨v',l',e'⟩:=hs6 r hr e1;have u8:r.2.t.toNat<8:=by have:=(hR r hr).1.t0;have:=(hR r hr).1.t7;omega
      refine⟨v',l',?_⟩;have et:turned q t'=turned q t:=(hO t' ht').inj (hO t ht) (by rw[<- e2,<- ekt]);unfold gE at e' ⊢;rw[<- b7 hq a0 c0 ht' u8,et,b7 hq a0 c0 ht u8];exact e'
    ·rintro σ H5 ⟨tb5,ws,lws,z5,z7,z8,z9,⟨sx5,hl5,hcA5,hT5,hw5,hwA,hI5,hm5⟩⟩
     refine h1 _ _ ?_;ext;rw[KD,hcA5.1,List.drop_length]at hI5;have hI9:=hI5.op (op':=λk=>k∈lws) (λk hk=>.inr hk) (λk v ho no _=>ho.elim (λz=>nomatch z) λz=>q0Q z no);refine⟨_,?_,.mk tb5 lws lw ws _ _ _ _ _ sx5 hT5 hw5 hwA hI9 ⋯ rfl⟩;cases lws with
     |nil=>rw[q07 rfl];simp at hm5;omega
     |cons _ _=>rw[q06 (by simp)];simp at hm5;omega
theorem og:∀{as:LD} {rs:Yaa},bN R H as rs->∃tas:List Addr,((as.zip rs).filterMap λx=>if x.2.1=3 then some (V.ref x.1) else none)=tas.map V.ref/\bN R H tas (oO rs)
 | [],[],h=>⟨[],rfl,h⟩
 | [],_::_,h=>nomatch h.1
 |_::_,[],h=>nomatch h.1
 |a::as,r::rs,h=>by
  have h2:bN R H as rs:=⟨Nat.succ.inj h.1,λi b y e1 e2=>h.2 (i+1) b y e1 e2⟩;obtain⟨tas,e,ht⟩:=og h2;rw[List.zip_cons_cons,q0U]
  by_cases h3:r.1=3
  ·refine⟨a::tas,by simp only[q07 h3];rw[e];rfl,?_⟩
   have et:oO (r::rs)=r::oO rs:=by unfold oO;rw[List.filter_cons,q07 (by simpa using h3)]
   rw[et];refine⟨by rw[KP,KP,ht.1],λi b y e1 e2=>?_⟩;cases i with
   |zero=>
    rw[List.getElem?_cons_zero]at e1 e2;cases e1;cases e2
    exact h.2 0 _ _ rfl rfl
   |succ i=>exact ht.2 i b y e1 e2
  ·refine⟨tas,by simp only[q06 h3];exact e,?_⟩
   have et:oO (r::rs)=oO rs:=by unfold oO;rw[List.filter_cons,q06 (by simpa using h3)]
   rw[et];exact ht
theorem qU:∀{as:LD} {rs:Yaa} (k:Nat),as.length=rs.length->(((as.zip rs).zipIdx k).filterMap λx=>if x.1.2.1=3 then none else some (V.int (x.2:Int)))=vJ ((rs.zipIdx k).filterMap λx=>if x.1.1=3 then none else some x.2)
 | [],[],_,_=>rfl
 | [],_::_,_,h=>nomatch h
 |_::_,[],_,h=>nomatch h
 |a::as,r::rs,k,h=>by
  have ih:=qU (as:=as) (rs:=rs) (k+1) (Nat.succ.inj h);rw[List.zip_cons_cons,List.zipIdx_cons,List.zipIdx_cons,q0U,q0U]
  by_cases h3:r.1=3
  ·simp only[q07 h3];exact ih
  ·simp only[q06 h3];rw[ih];rfl
abbrev d9:Stmt:=fS 51
inductive fT(R:RC)(CG:Addr)(vs:List V)(H:Hp)(Q:VK)(_E:XK):Prop
 |mk (g dx a d:Addr) (sg st:LA) (as:LD) (rs:Yaa) (nms:List (List Nat)) (p q:aL) (r c:Nat) (dn:LI) (tb:Tb) (_:vs=[.ref g,.ref a,.ref d]) (_:dM R H CG dx g sg st as rs) (_:(cr (tx st) rs).map (·.1)=nms.map tx) (_:iE rs nms p r c) (_:tM rs p r c dn q) (_:ES rs nms p r c dn tb) (_:H a=some (.lst (au q))) (_:cv H d tb) (_:tb.length<=9900000) (_:∀l H' tb',H' l=some (.lst ((fq q).map V.str))->cv H' d tb'->(∀dn',(∀z,z∈dn'↔z∈dn\/∃t,t<8/\z=tx (bu (turned q t)))->ES rs nms p r c dn' tb')->tb'.length<=tb.length+1216->bp d H H'->Q (.ref l) H')
theorem j9:aI ["grammar","picture","told","turning","putting","texts","t","cuts"] ["grammar","picture","told"] (ax d9):=by walk_at "c"
theorem kf{f:Addr}(F:dw K "enter_turnings" "enter_turnings" d9 f fd)(nb:NB mg)(rk:lx K R)(rk4:AF K R)(cc:jl K CC)(nc:D9 K CC){tkT:Tok}(yai:mg "TURNINGS"=some (.int 8 tkT))(zxa:mg "TurnRule"=some (.ref R.ct))(yak:↑jp 1 CG "rules" ["self"] (gB R CG))(yaB:↑jp 1 CG "names" ["self"] (gx R CG))(yar:↑kT 3 "Cuts" CC ["self","picture"] (ik K))(zla:↑dP 3 "turned" ["picture","t"] (i7 K))(yaD:↑dP 7 "put_together" ["grammar","numbers","cuts","told"] (iy R CG CC))(yaz:↑dP 2 "turn_about" ["rules","texts","names","told"] (jx R)):↑bC 8 f fd ["grammar","picture","told"] (fT R CG):=by
 have sc:=j9;walk_at "f"
 ·obtain⟨g,dx,a,d,sg,st,as,l,f5,p,q,r,c,dn,tb,rfl,hG,g0,m,hN,hS,ha,hT,htl,qq⟩:=h
  have hu:=hr.units;refine⟨_,(ae (fD (i:=3) ["rule"] [] sc.nd rfl (Or.inl rfl) rfl  rfl (bP.of (by kernel_rfl)) (by kernel_rfl) (bG (pd yak (hr.mono (by decide)) aO (ar 0)))
    (λ_ _ _ _=>(aw (i:=0) (by show(["rule"]:List Str).Nodup;decide +kernel) rfl (Or.inl rfl))) (λ_ _ _ _=>(tS (fb (aB (gP (K:=K) rfl) rfl nb.isinstance cn (ac (ar 0) (ac (du (v:=.ref _) rfl zxa rfl) ad))) λ_=>rfl))) (λ_ _ _ _=>(ar 0)))
   (ae (fD (i:=4) ["k","rule"] [] sc.nd rfl (Or.inl rfl) rfl  rfl (bP.of (by kernel_rfl)) (by kernel_rfl) (rB rfl nb.enumerate (ac (pd yak (hr.mono (by decide)) aO (ar 0)) ad))
    (λ_ _ _ _=>(m6 (K:=K) (n:=2) rfl rfl (bh (aw (i:=0) (by show(["k","rule"]:List Str).Nodup;decide +kernel) rfl (Or.inl rfl)) (bh (aw (i:=1) (by show(["k","rule"]:List Str).Nodup;decide +kernel) rfl (Or.inl rfl)) dD)))) (λ_ _ _ _=>(tS (gy (fb (aB (gP (K:=K) rfl) rfl nb.isinstance cn (ac (ar 1) (ac (du (v:=.ref _) rfl zxa rfl) ad))) λ_=>rfl)))) (λ_ _ _ _=>(ar 0)))
   (ae (q01 5 sc.nd (bw ad))
   (ae (aS PassesOwn.never rfl (bL rfl nb.range (ac (du (v:=.int 8) rfl yai ⟨_,rfl⟩) ad)) (q02 6 sc.nd)
   (ae (q01 7 sc.nd (jg yar (hr.mono (by decide)) rfl aO (ac (q00 zla hr (ac (ar 1) (ac (ar 6) ad))) ad)))
   (ae (bg (q00 yaD hr (ac (ar 0) (ac (ar 4) (ac (ar 7) (ac (ar 2) ad))))))
   (ai (bg (q03 (ar 5) (ac (cK (ar 7) rfl) ad)))))))
   (ae (bg (q00 yaz hr (ac (ar 3) (ac (ar 5) (ac (pd yaB (hr.mono (by decide)) aO (ar 0)) (ac (ar 2) ad))))))
   (ai (aP (ar 5)))))))),?_⟩
  obtain⟨lk,pn,nt,d4,hgk,z,hgN,hgm⟩:=id hG;have d2:∀x∈l,x.1<4:=λx G=>(m.gd x G).k4;have f9:=m.r24;have c4:=z.1;have c2:(as.zip l).length<=1000000:=by rw[q0N];omega
  symm;refine⟨_,_,d4,rfl,g,dx,sg,st,as,l,rfl,hG,λl1 H1 g3 e1 s1=>?_⟩;refine⟨l1,rfl,⟨_,aN.of e1⟩,?_⟩;refine dI (as:=as.zip l) (emb:=λx=>V.ref x.1) (f:=λx=>if x.2.1=3 then some (V.ref x.1) else none) (λσ=>∃x,σ=[x]) ⟨_,rfl⟩ (λH2 O=>by rw[z.zip.1];exact aN.of (O _ _ e1)) c2 ?_ ?_
  ·rintro j x G σ H2 M1 M0 ⟨x0,rfl⟩ O k1 k0
   have D:=KH G;obtain⟨f4,rl,a4,_⟩:=(((z.zip.2.2 x D).up s1).up O);have a3:x.2.1<4:=d2 x.2 (by rw[<- z.zip.2.1];exact Lm.mpr ⟨x,D,rfl⟩);ext;refine⟨_,(rk.icls x.2.1).ty a4,_,rk4.kit x.2.1 3 a3 (by decide),?_⟩
   by_cases M:x.2.1=3
   ·rw[q07 (by simpa using M)]
    exact k1 _ _ _ (by rw[q07 M]) O ⟨_,rfl⟩
   ·rw[q06 (by simpa using M)]
    exact k0 _ _ (by rw[q06 M]) O ⟨_,rfl⟩
  ·intro H2 O l2 d1
   obtain⟨f3,e9,f7⟩:=og z;rw[e9];refine h1 _ _ ?_;clear h1;generalize T:aE H2 l2 _=H3;obtain⟨s3,e3⟩:=dN d1 T;have sA:=s1.trans (O.trans s3);symm;have e2:=hG.up sA;refine⟨_,_,sA _ _ d4,rfl,g,dx,sg,st,as,l,rfl,e2,λl4 H4 g2 e4 s4=>?_⟩;refine⟨l4,rfl,_,aN.of e4,?_⟩;have sB:=sA.trans s4;refine wV (as:=as.zip l) (emb:=λx=>V.ref x.1) (f:=λi x=>if x.2.1=3 then none else some (V.int (i:Int))) (λσ=>∃x y,σ=[x,y]) ⟨_,_,rfl⟩ (λH5 J=>by rw[z.zip.1];exact aN.of (J _ _ e4)) c2 ?_ ?_
   ·rintro j x G σ H5 tp M1 M0 ⟨x0,x1,rfl⟩ J f6 k1 k0
    have D:=KH G;generalize T:aE H5 tp _=H6;obtain⟨Z,e6⟩:=dN f6 T;obtain⟨f4,rl,a4,_⟩:=((((z.zip.2.2 x D).up sB).up J).up Z);have a3:x.2.1<4:=d2 x.2 (by rw[<- z.zip.2.1];exact Lm.mpr ⟨x,D,rfl⟩);ext;refine⟨_,dO.of e6,rfl,_,_,rfl,_,_,rfl,rfl,_,(rk.icls x.2.1).ty a4,_,rk4.kit x.2.1 3 a3 (by decide),?_⟩
    by_cases M:x.2.1=3
    ·rw[q06 (by simpa using M)]
     exact k0 _ _ (by rw[q07 M]) (J.trans Z) ⟨_,_,rfl⟩
    ·rw[q07 (by simpa using M)]
     exact k1 _ _ _ (by rw[q06 M]) (J.trans Z) ⟨_,_,rfl⟩
   ·intro H5 J l5 c9
    rw[show((as.zip l).zipIdx.filterMap λx=>if x.1.2.1=3 then none else some (V.int (x.2:Int)))=vJ (eY l) from qU 0 c4];refine h1 _ _ ?_;clear h1;generalize T:aE H5 l5 _=H6;obtain⟨Z,e6⟩:=dN c9 T;have sC:=sB.trans (J.trans Z);have h6:=(s4.trans (J.trans Z)) _ _ e3;have c3:=f7.up sC;have e0:=hG.up sC;have g6:=sC _ _ ha;have B:cv H6 d tb:=hT.up sC;clear Z c9 J s4 e4 g2 sB e2 sA s3 e3 d1 O s1 e1 g3;symm;refine⟨K5 _,λl7 I=>h1 _ _ ?_⟩;clear h1;generalize T:aE H6 l7 _=H7;obtain⟨s7,e7⟩:=dN I T;symm;rw[show Int.toNat 8=8 from rfl];obtain⟨a0,b0,k⟩:=sr m.hp m.r6 m.c6 hN.sq;have d6:=hS.pta m hN;have hpn:(eY l).length<=24:=by
     unfold eY;refine K' (List.length_filterMap_le _ _) ?_;rw[List.length_zipIdx];exact f9
    have c7:l7≠d:=λe=>by
     rw[e]at I;rw[show H6 d=_ from B]at I;cases I
    refine⟨by decide,bv (lo:=0) (n:=8) (λt σ H8=>bp d H6 H8/\cv H8 d (pta l (eY l) q tb t)/\H8 l7=some (.lst (((List.range t).map λu=>tx (bu (turned q u))).map V.str))/\∃x6 x7,σ=[some (V.ref g),some (V.ref a),some (V.ref d),some (V.ref l2),some (V.ref l5),some (V.ref l7),x6,x7]) ⟨bp.of s7,B.up s7,e7,_,_,rfl⟩ ?_ ?_⟩
    ·rintro t σ H8 ht ⟨C,L,e8,x6,x7,rfl⟩
     have a2:=C.kp B;have f8:=hN.sq.turned m.hp ht;obtain⟨a1,b1,e5⟩:=sr m.hp m.r6 m.c6 f8;have:=k.r6;have:=k.c6;symm;refine⟨a,q,a0,b0,t,by simp,aN.of (a2.lst g6),k.rc,k.r0,k.c0,⋯,⋯,ht,λlq H9 hlq h4 Y=>?_⟩;intro x a5 G g4 g1;have b3:aD H9 (aE (aE H9 a5 (.own x)) x (.ins CC a5 [])):=(ao g4).trans (ao (by rw[av (Ne.symm g1)];exact G));refine⟨x,CC,a5,lq,turned q t,a1,b1,rfl,af,cc.cl,nc,b3 _ _ h4,e5,λH3 hC sx=>⟨rfl,h1 _ _ ?_⟩⟩;clear h1;have s3:aD H9 H3:=λy u e=>sx y u (aK e G) (b3 y u e);have U:=Y.trans s3;have d5:cv H3 d (pta l (eY l) q tb t):=L.up U;have a9:=C.then U;have c1:=a9.kp B;have c5:=(d6 t ⋯).len;symm;refine⟨g,dx,l5,x,d,sg,st,as,l,eY l,turned q t,a1,b1,pta l (eY l) q tb t,rfl,e0.kp c1,m.gd,c1.lst e6,λn hn=>(let ⟨r',e',_⟩:=kh.mp hn;(KA.mp e').1),⋯,hC,e5,d5,?_,λH4 h0 a8=>h1 _ _ ?_⟩
     ·have:6*(eY l).length*t<=6*24*8:=Nat.mul_le_mul ⋯ ⋯
      omega
     clear h1;have b6:=a8.kp d5;obtain⟨dxc,lp,lb,la,g5,_⟩:=hC.kp b6;have f0:=b6.lst (U _ _ e8);ext;refine⟨.inl ⟨rfl,_,aN.of f0⟩,_,_,_,g5,cc.cl,nc.2.1,_,rfl,_,f0,by rw[KD,KD,q0J];exact aR ⋯,λb o hb h=>?_,?_,?_⟩
     ·rw[av (aK h I)];exact(a9.trans a8) b o hb h
     ·show aE H4 l7 _ d=_
      rw[av (Ne.symm c7)];exact h0
     ·rw[af,q0M,KQ,KQ];rfl
    ·rintro σ H8 ⟨C,L,e8,x6,x7,rfl⟩
     refine h1 _ _ ?_;clear h1;ext;have a2:=C.kp B;have d7:=e0.kp a2;obtain⟨lk',pn',nt',d3,_⟩:=id d7;have a6:=d6 8 (K4 _);have c5:=a6.len;have hlen2:6*(eY l).length*8<=6*24*8:=Nat.mul_le_mul ⋯ ⋯;have g9:=ES.start m hN hS a6;have hcell:bM q<=6*6:=by
      unfold bM;rw[k.rc.1,bf k.rc k.r0];exact Nat.mul_le_mul k.r6 k.c6
     refine⟨_,_,d3,rfl,g,dx,sg,st,as,l,rfl,d7,λln H9 hln h5 Y=>?_⟩;have a7:=C.then Y;have b4:=a7.kp B;refine⟨l2,l7,ln,d,f3,oO l,l,q,a0,b0,f5,1170*bM q-1161,(pta l (eY l) q tb 8).length,pta l (eY l) q tb 8,rfl,b4.lst h6,c3.kp b4,Y _ _ e8,?_,L.up Y,k.rc,k.r0,k.c0,λt ht=>eR m.hp m.ns (hN.sq.turned m.hp ht),m.n8,λx G=>⟨m.turn3 G,by simpa using(List.mem_filter.mp G).2⟩,g9,⋯,⋯,λH' f1 h2 S b2=>?_⟩
     ·rw[h5]
      congr 2
      have:=q0R (List.map V.str) g0;rw[KS,KS]at this;exact this
     ·have h64:=S.len64 m.n8
      refine qq l7 H' f1 ((b2.kp (L.up Y)).lst (Y _ _ e8)) h2 (λdn' hd=>ES.enter m hN hS a6 S hd) ⋯ ((bp.of sC).trans (a7.trans b2))
structure mI(rs:Yaa)(nms:List (List Nat))(p:aL)(r c:Nat)(tb:Tb):Prop where
 nd:(tb.map (·.1)).Nodup
 key:∀k v,aH tb k=some v->(∃q,ba p r c q/\k.1=bu q)/\k.2∈nms/\Dv rs k v/\1<=v
 clo:∀q,ba p r c q->G6 rs (aH tb) q
 len:tb.length<=9900000
theorem mI.min(E:iE rs nms p r c)(h:mI rs nms p r c tb){q:aL}(hq:ba p r c q){n:LA}{v:Int}(hv:Dv rs (bu q,n) v):∃v',v'<=v/\aH tb (bu q,n)=some v':=
 Bp E.hp E.ns (λx hx=>⟨(E.gd x hx).good.t0,(E.gd x hx).good.t7⟩) h.clo hv q hq rfl
def F2(d e:Addr)(H H':Hp):Prop:=∀b o,b≠d->b≠e->H b=some o->H' b=some o
theorem dM.f2{st:LA}(g:dM R H C dx a sg st as rs)(hd:H d=some (.dT m))(he:H e=some (.dK []))(s:F2 d e H H'):dM R H' C dx a sg st as rs:=by
 obtain⟨u,n,t,h1,h2,q,c,k⟩:=g;have j:∀{b:Addr} {xs:List V},H b=some (.lst xs)->H' b=some (.lst xs):=fun{b xs} h=>s b _ (λz=>by rw[z,hd]at h;cases h) (λz=>by rw[z,he]at h;cases h) h;have o:∀{b C dx:Addr} {fs:List (Str×V)},H b=some (.ins C dx fs)->H' b=some (.ins C dx fs):=fun{b C dx fs} h=>s b _ (λz=>by rw[z,hd]at h;cases h) (λz=>by rw[z,he]at h;cases h) h;refine⟨u,n,t,o h1,j h2,⟨q.1,λi b r G D=>?_⟩,⟨s n _ (λz=>?_) (λz=>?_) c.dict,λx y=>j (c.list x y),c.apart⟩,k⟩
 ·obtain⟨dx,l,w,v⟩:=q.2 i b r G D
  exact⟨dx,l,o w,j v⟩
 ·have h:=c.dict
  rw[z,hd]at h;cases h
 ·have h:=c.dict
  rw[z,he]at h
  injection h with h
  injection h with h
  have B:t=[]:=by
   cases t with
   |nil=>rfl
   |cons x t=>exact nomatch h
  rw[B]at k;have p:=(kn (tx st) rs (tx st)).mpr (.inl rfl);rw[<- k]at p;exact nomatch p
def ug(dn:LI)(zs:LI):List Str:=zs.foldl ThM.addNew dn
theorem kc{z:Str}:∀{zs dn:LI},z∈ug dn zs↔z∈dn\/z∈zs
 | [],dn=>by simp[ug]
 |y::zs,dn=>by
  show z∈ug (ThM.addNew dn y) zs↔_;rw[kc,ThM.mem_addNew,KU,or_assoc]
theorem oY:∀(zs dn:LI),(ug dn zs).length<=dn.length+zs.length
 | [],dn=>K4 _
 |y::zs,dn=>by
  have h1:=oY zs (ThM.addNew dn y);have h2:(ThM.addNew dn y).length<=dn.length+1:=by unfold ThM.addNew;split<;>simp
  show(ug (ThM.addNew dn y) zs).length<=_;rw[KP];omega
theorem u7{z:Str}:z∈fq q↔∃t,t<8/\z=tx (bu (turned q t)):=by
 unfold fq;rw[Lm]
 constructor
 ·rintro⟨t,a,rfl⟩;exact⟨t,List.mem_range.mp a,rfl⟩
 ·rintro⟨t,a,rfl⟩;exact⟨t,List.mem_range.mpr a,rfl⟩
theorem ES.new{dn:LI}{qs:List aL}{i:Nat}{q:aL}(E:iE rs nms p r c)(S:ES rs nms p r c dn tb)(hsn:FO p r c qs)(hi:qs[i]?=some q)(hdn:∀j z,j<i->qs[j]?=some z->tx (bu z)∈dn)(hno:tx (bu q)∉dn):tM rs p r c dn q:=by
 have a:=(hsn.1 q).mp (KH hi);obtain⟨a0,b0,g,e,d,_⟩:=a.rect E.hp;refine⟨a,λt b v=>hno ?_,λn k hc=>?_⟩
 ·have:=S.tur _ (a.turned E.hp b) v (df t) (jb b)
  rwa [lV g e d b]at this
 ·obtain⟨j,o⟩:=List.mem_iff_getElem?.mp ((hsn.1 n).mpr k)
  refine hdn j n ?_ o;obtain⟨FX,u⟩:=KA.mp hi;obtain⟨l,m⟩:=KA.mp o;rcases Nat.lt_trichotomy j i with h | h | h
  ·exact h
  ·subst h
   rw[u]at m;subst m;omega
  ·have:=List.pairwise_iff_getElem.mp hsn.2 i j FX l h
   rw[u,m]at this;rcases this with h | ⟨h,_⟩<;>omega
abbrev gZ:Stmt:=fS 50
inductive jG(K:W.Frag)(R:RC)(CG:Addr)(vs:List V)(H:Hp)(Q:VK)(_E:XK):Prop
 |mk (g dx a d e:Addr) (sg st:LA) (as:LD) (rs:Yaa) (nms:List (List Nat)) (p:aL) (r c:Nat) (_:vs=[.ref g,.ref a,.ref d,.ref e]) (_:dM R H CG dx g sg st as rs) (_:(cr (tx st) rs).map (·.1)=nms.map tx) (_:iE rs nms p r c) (_:aN K H a (au p)) (_:cv H d []) (_:H e=some (.dK [])) (_:∀H' tb,cv H' d tb->mI rs nms p r c tb->F2 d e H H'->Q .non H')
theorem pY:aI ["grammar","picture","told","done","seen","text"] ["grammar","picture","told","done"] (ax gZ):=by walk_at "c"
theorem pW{f:Addr}(F:dw K "enter_seen" "enter_seen" gZ f fd)(nb:NB mg)(yaC:↑dP 4 "seen_in" ["picture"] (pF K))(yab:↑dP 1 "shown" ["picture"] (gD K))(yaQ:↑dP 8 "enter_turnings" ["grammar","picture","told"] (fT R CG)):↑bC 9 f fd ["grammar","picture","told","done"] (jG K R CG):=by
 have sc:=pY;walk_at "f"
 ·obtain⟨g,dx,a,d,e,sg,st,as,rs,a2,p,r,c,rfl,hG,b3,u,c1,hT,he,qq⟩:=h
  have hu:=hr.units;refine⟨_,(ai (aS PassesOwn.never rfl (bG (q00 yaC hr (ac (ar 1) ad))) (q02 4 sc.nd)
   (ai (bX (rW (qx (Lk (Lo (by decide:1<=64) _) hu) (q00 yab hr (ac (ar 4) ad)) (ar 3)) (by with_unfolding_all rfl))
   (ai (aS PassesOwn.never rfl (bG (q00 yaQ hr (ac (ar 0) (ac (ar 4) (ac (ar 2) ad))))) (q02 5 sc.nd)
   (ai (kt (Lk (Lo (by decide:1<=64) _) hu) (ar 3) (ar 5) iA rfl))))
   bj)))),?_⟩
  ext;refine⟨a,p,r,c,rfl,c1,u.hp,u.r0,u.c0,u.r6,u.c6,u.ns,λH1 l zs s1 hl el hz hnd T hzl=>⟨l,rfl,⟨_,aN.of el⟩,?_⟩⟩;have Y:cv H1 d []:=hT.up s1;have U:=s1 _ _ he;have c4:=hG.up s1;have a8:d≠e:=λz=>by rw[z]at hT;rw[show H e=_ from hT]at he;cases he
  have a9:∀{H':Hp} {b:Addr} {xs:List V},F2 d e H1 H'->H1 b=some (.lst xs)->H' b=some (.lst xs):=fun{H' b xs} s h=>s b _ (λz=>by rw[z,show H1 d=_ from Y]at h;cases h) (λz=>by rw[z,U]at h;cases h) h;refine bW (xs:=zs.map λz=>V.ref z.1) (λi σ H2=>F2 d e H1 H2/\i<=zs.length/\(∃(tb:Tb) (m:LI),cv H2 d tb/\H2 e=some (.dK (ThM.trueD m))/\ES rs a2 p r c m tb/\(∀j z,j<i->(zs.map (·.2))[j]?=some z->tx (bu z)∈m)/\tb.length<=1216*i/\m.length<=8*i)/\∃x4 O,σ=[some (V.ref g),some (V.ref a),some (V.ref d),some (V.ref e),x4,O]) ?_ (λi σ H2 _ h=>aN.of (a9 h.1 el)) ?_ ?_
  ·refine⟨λb o _ _ h=>h,K5 _,⟨[],[],Y,U,⟨List.nodup_nil,(λk v h=>nomatch h),(λk v h=>nomatch h),(λz h=>nomatch h),(λq _ h=>nomatch h),(λq _ h=>nomatch h),(λq _ h=>nomatch h)⟩,(λj z h=>q0Q h (Nat.not_lt_zero _)),K4 _,K4 _⟩,_,_,rfl⟩
  ·rintro i x σ H2 hx ⟨f2,_,⟨tb,m,J,I,M,n,a5,b4⟩,x4,O,rfl⟩
   rw[KG]at hx;obtain⟨z,S,rfl⟩:=K8.mp hx;have hi:=(KA.mp S).1;have b2:=KH S;have a3:=a9 f2 (hz z b2).2;have D:(zs.map (·.2))[i]?=some z.2:=by rw[KG,S];rfl
   have sq:=(T.1 z.2).mp (KH D);obtain⟨a0,b0,c5⟩:=sr u.hp u.r6 u.c6 sq;have a7:tx (bu z.2)∈m->∀j y,j<i+1->(zs.map (·.2))[j]?=some y->tx (bu y)∈m:=λZ j y hj B=>by
    by_cases ej:j=i
    ·subst ej
     rw[D]at B;cases B
     exact Z
    ·exact n j y ⋯ B
   ext;refine⟨z.1,z.2,rfl,a3,c5.small,_,.inl ⟨_,.inr (tx (bu z.2)),.inl I,rfl,rfl⟩,?_⟩;rw[ThM.trueD_val]
   by_cases Z:tx (bu z.2)∈m
   ·rw[q06 (by simpa using Z)]
    exact⟨f2,hi,tb,J,m,I,M,a7 Z,⋯,⋯⟩
   ·rw[q07 (by simpa using Z)]
    have hN:=M.new u T D n Z;refine⟨g,dx,z.1,d,sg,st,as,rs,a2,p,z.2,r,c,m,tb,rfl,c4.f2 Y U f2,b3,u,hN,M,a3,J,⋯,λl3 H3 b1 L b6 c3 hl3 a1=>⟨l3,rfl,⟨_,aN.of L⟩,?_⟩⟩;have a6:=a1 _ _ (Ne.symm a8) I;have hcl:(fq z.2).length=8:=by unfold fq;rw[KD,q0J]
    refine bW (xs:=(fq z.2).map V.str) (λj σ H4=>bp e H3 H4/\j<=8/\H4 e=some (.dK (ThM.trueD (ug m ((fq z.2).take j))))/\∃O,σ=[some (V.ref g),some (V.ref a),some (V.ref d),some (V.ref e),some (V.ref z.1),O]) ⟨bp.of λ_ _ h=>h,K5 _,a6,_,rfl⟩ (λj σ H4 _ h=>aN.of (h.1 _ _ (λzz=>by rw[zz,a6]at L;cases L) L)) ?_ ?_
    ·rintro j x σ H4 hx ⟨C,_,G,O,rfl⟩
     rw[KG]at hx;obtain⟨y,B,rfl⟩:=K8.mp hx;have hj:j<8:=by have:=(KA.mp B).1;omega
     have a4:=oY ((fq z.2).take j) m;rw[Lg]at a4;ext;refine⟨_,.inl ⟨_,.inr y,G,rfl,by rw[ThM.trueD_len];exact aR ⋯,rfl⟩,C.put,hj,?_⟩;rw[af,ThM.trueD_put,q0E,B];show _=some (HO.dK (ThM.trueD (List.foldl ThM.addNew m (_++[y]))));rw[List.foldl_append];rfl
    ·rintro σ H4 ⟨C,_,G,O,rfl⟩
     rw[KD,Lf]at G;have a4:=oY (fq z.2) m;have c2:=c3 (ug m (fq z.2)) λy=>by rw[kc,u7]
     refine⟨λb o h1 h2 h=>C b o h2 (a1 b o h1 (f2 b o h1 h2 h)),hi,⟨b1,C _ _ a8 b6,ug m (fq z.2),G,c2,λj y hj B=>?_,⋯,⋯⟩,_,_,rfl⟩
     by_cases ej:j=i
     ·subst ej
      rw[D]at B;cases B
      exact kc.mpr (.inr (u7.mpr ⟨0,⋯,rfl⟩))
     ·exact kc.mpr (.inl (n j y ⋯ B))
  ·rintro σ H2 ⟨f2,_,⟨tb,m,J,I,M,n,a5,b4⟩,x4,O,rfl⟩
   have all:∀q,ba p r c q->tx (bu q)∈m:=λq hq=>by
    obtain⟨j,hj⟩:=List.mem_iff_getElem?.mp ((T.1 q).mpr hq);refine n j q ?_ hj;have:=(KA.mp hj).1
    rwa [KD]at this ⊢
   rw[KD]at a5;refine qq H2 tb J ⟨M.nd,λk v h=>?_,λq hq=>M.clo q hq (all q hq),⋯⟩ λb o h1 h2 h=>f2 b o h1 h2 (s1 b o h);obtain⟨h1,h2⟩:=M.key k v h;obtain⟨q,h3,h4⟩:=M.don _ h1;exact⟨⟨q,h3,tx_inj h4⟩,h2⟩
abbrev jR:Stmt:=fS 49
inductive lY(K:W.Frag)(R:RC)(CG:Addr)(vs:List V)(H:Hp)(Q:VK)(_E:XK):Prop
 |mk (g dx a:Addr) (sg st:LA) (as:LD) (rs:Yaa) (nms:List (List Nat)) (p:aL) (r c:Nat) (_:vs=[.ref g,.ref a]) (_:dM R H CG dx g sg st as rs) (_:(cr (tx st) rs).map (·.1)=nms.map tx) (_:iE rs nms p r c) (_:aN K H a (au p)) (_:∀d H' tb,H d=none->cv H' d tb->mI rs nms p r c tb->aD H H'->Q (.ref d) H')
theorem uw:aI ["grammar","picture","told"] ["grammar","picture"] (ax jR):=by walk_at "c"
theorem uE{f:Addr}(F:dw K "table_of" "table_of" jR f fd)(nb:NB mg)(yap:↑dP 9 "enter_seen" ["grammar","picture","told","done"] (jG K R CG)):↑bC 10 f fd ["grammar","picture"] (lY K R CG):=by
 have sc:=uw;walk_at "f"
 ·obtain⟨g,J,a,y,x,L,z,k,p,r,c,rfl,D,l,G,q,B⟩:=h
  refine⟨_,(ae (q01 2 sc.nd uy)
   (ae (bg (q00 yap hr (ac (ar 0) (ac (ar 1) (ac (ar 2) (ac nN ad))))))
   (ai (aP (ar 2))))),?_⟩
  ext;intro d n e m;have j:=ao (o:=.dT []) n;have v:cv (aE H d (.dT [])) d []:=af;generalize aE H d (.dT [])=H1 at j v m ⊢;have i:=ao (o:=.dK []) m;have u:aE H1 e (.dK []) e=some (.dK []):=af;generalize aE H1 e (.dK [])=H2 at i u ⊢;refine⟨g,J,a,d,e,y,x,L,z,k,p,r,c,rfl,D.up (j.trans i),l,G,(j.trans i).seq q,v.up i,u,λM tb C I f2=>?_⟩;exact B d M tb n C I λb o h=>f2 b o (aK h n) (aK (j b o h) m) (i b o (j b o h))
abbrev oR:Stmt:=fS 56
inductive lE(K:W.Frag)(vs:List V)(H:Hp)(Q:VK)(_E:XK):Prop
 |mk (a:Addr) (ns:List Int) (k:Nat) (_:vs=[.ref a,.int (k:Int)]) (_:aN K H a (ns.map V.int)) (_:k<=1000) (_:∀c:Int,Q (.int c) H)
theorem zY:aI ["_law_script","_law_k","_law_cell_here","_law_mixed"] ["_law_script","_law_k"] (ax oR):=by walk_at "c"
theorem yv{f:Addr}(F:dw K "_law_cell" "_law_cell" oR f fd)(nb:NB mg):↑bC 1 f fd ["_law_script","_law_k"] (lE K):=by
 have sc:=zY;walk_at "f"
 ·obtain⟨a,ns,k,rfl,hS,hk,q⟩:=h
  refine⟨_,(ae (q01 2 sc.nd aj)
   (ae (bX (aQ mj (aB aU rfl nb.len aX (ac (pv 0) ad)) aj (a_ _))
   (ai (q01 2 sc.nd (aY rC (pv 0) (ay aZ (pv 1) (aB aU rfl nb.len aX (ac (pv 0) ad))) (λ_ _=>rfl))))
   bj)
   (ae (q01 3 sc.nd (ay aZ (ay eD (ay bK (ay bK (ay aZ (pv 2) aj) (ay eD aj (pv 1))) aj) aj) aj))
   (ai (aP (ay bK (ay eD (ay bc (pv 2) aj) aj) (ay aZ (ay bK (ay eD (pv 3) aj) (pv 1)) aj))))))),?_⟩
  ext;refine⟨_,hS,?_⟩;rw[KD]
  split
  ·rename_i hlt
   have h0:0<=(k:Int)%(ns.length:Int):=Lr _ ⋯;have h1:(k:Int)%(ns.length:Int)<ns.length:=Ls _ ⋯;obtain⟨j,hj⟩:∃j:Nat,(k:Int)%(ns.length:Int)=(j:Int):=⟨_,(Lu h0).symm⟩;have hj2:j<ns.length:=by omega
   refine⟨_,hS,by rw[KD];omega,_,hS,V.int ns[j],?_,_,rfl,_,rfl,q _⟩;rw[KD,hj];exact bI (by rw[KG,Kz hj2];rfl)
  ·exact q _
theorem yM:(Str.ofString "abcdefghijklmnopqrstuvwxyz").cps.toList=(List.range 26).map (97 + ·):=by decide +kernel
theorem A5{α:Type}[DecidableEq α]:∀(l σ:List α),(∀x∈l,x∉σ)->l.Nodup->l.foldl dZ σ=σ++l
 | [],σ,_,_=>by simp
 |x::l,σ,h,nd=>by
  rw[q0d]at nd;rw[List.foldl_cons,show dZ σ x=σ++[x] by unfold dZ;rw[q06 (h x q0B)]];rw[A5 l (σ++[x]) (λy hy hm=>?_) nd.2,Ld];rfl
  rcases KR.mp hm with hm | hm
  ·exact h y (KW _ hy) hm
  ·rw[KF.mp hm]at hy;exact nd.1 hy
theorem Bc:∀n,n<26->Fz ki (97+n)=true:=by decide +kernel
structure Cz(r:LA):Prop where
 sm:∀x∈r,97<=x/\x<123
 nd:r.Nodup
theorem Cz.signs(h:Cz r)(h1:1<=r.length)(h4:r.length<=4):hU r=true:=by
 have b:jy r ki=true:=Ln.mpr λx a=>by
  have:=h.sm x a;have e:=Bc (x-97) ⋯
  rwa [show 97+(x-97)=x by omega]at e
 have c:(met (cT (tx r))).length=r.length:=by
  unfold met;rw[A5 _ _ (λ_ _=>List.not_mem_nil) ?_]
  ·unfold cT;rw[cX];simp
  ·unfold cT
   rw[cX,List.Nodup,List.pairwise_map];exact h.nd.imp λn e=>n (by have:=q0R (λs:Str=>s.cps[0]?) e;simpa using this)
 unfold hU;rw[b,c];simp;omega
theorem qo{α β:Type}(f:α->β):∀(l:List α) (k:Nat),(l.map f).eraseIdx k=(l.eraseIdx k).map f
 | [],_=>rfl
 |_::_,0=>rfl
 |x::l,k+1=>q0R (f x :: ·) (qo f l k)
theorem rZ(r s:LA):tx r++tx s=tx (r++s):=by
 show(⟨r.toArray++s.toArray⟩:Str)=⟨(r++s).toArray⟩;simp
theorem oE{α:Type}:∀(l:List α) (k:Nat) (x:α),l[k]?=some x->(x::l.eraseIdx k).Perm l
 | [],_,_,e=>nomatch e
 |y::l,0,x,e=>by cases e;exact List.Perm.refl _
 |y::l,k+1,x,e=>(List.Perm.swap y x _).trans ((oE l k x e).cons y)
theorem Cz.pop{r pl:LA}{k ch:Nat}(h:Cz (r++pl))(e:pl[k]?=some ch):Cz ((r++[ch])++pl.eraseIdx k):=by
 have a:(r++[ch]++pl.eraseIdx k).Perm (r++pl):=by
  rw[Ld];exact(oE pl k ch e).append_left r
 exact⟨λx b=>h.sm x (a.mem_iff.mp b),a.nodup_iff.mpr h.nd⟩
structure D7(r:LA):Prop where
 ok:hU r=true
 one:∀c∈r,iB [c]=true
 nd:r.Nodup
 ns:47∉r
theorem Bo:∀n,n<26->iB [97+n]=true:=by decide +kernel
theorem Cz.sig(h:Cz r)(h1:1<=r.length)(h4:r.length<=4):D7 r:=⟨h.signs h1 h4,λc hc=>by
 have:=h.sm c hc;have e:=Bo (c-97) ⋯
 rwa [show 97+(c-97)=c by omega]at e,h.nd,λhc=>by have:=h.sm 47 hc;omega⟩
def ce(r:LA):aL:=r.map λc=>[c]
abbrev lP:Stmt:=fS 59
inductive n_(vs:List V)(H:Hp)(Q:VK)(_E:XK):Prop
 |mk (c:Int) (_:vs=[.int c]) (_:∀(l:Addr) (r:LA) (H':Hp),H l=none->H' l=some (.lst (au (ce r)))->D7 r->1<=r.length->r.length<=4->aD H H'->Q (.ref l) H')
theorem wt:aI ["_law_cell_here","_law_pool","_law_found","_law_rest","_law_k"] ["_law_cell_here"] (ax lP):=by walk_at "c"
theorem vM{f:Addr}(F:dw K "_law_signs" "_law_signs" lP f fd)(nb:NB mg):↑bC 1 f fd ["_law_cell_here"] n_:=by
 have sc:=wt;walk_at "f"
 ·obtain⟨c,rfl,q⟩:=h
  refine⟨_,(ae (q01 1 sc.nd (cV (wH rfl) rfl nb.list eF (fO ad)))
   (ae (q01 2 sc.nd (bw ad))
   (ae (q01 3 sc.nd (ay (bE.m1 bc) (ar 0) aj))
   (ae (aS PassesOwn.never rfl (bL rfl nb.range (ac (ay (bE.m0 bK) aj (ay (bE.m1 aZ) (ar 0) aj)) ad)) (q02 4 sc.nd)
   (ae (bg (q03 (ar 2) (ac (cJ PySem.F.plainAttrs_list PySem.F.slot_list_pop PySem.F.type_list_pop Cb (ar 1) (ac (ay (bE.m1 aZ) (ar 3) (aB aU rfl nb.len aX (ac (ar 1) ad))) ad)) ad)))
   (ai (q01 3 sc.nd (ay (bE.m1 bc) (ar 3) (ay (bE.m0 iX) aj (ar 4)))))))
   (ai (aP (ar 2))))))),?_⟩
  symm;refine⟨by decide +kernel,λg v=>h1 _ _ ?_⟩;clear h1;rw[yM];generalize z0:aE H g _=H1;obtain⟨O,J⟩:=dN v z0;have T:Cz ((List.range 26).map (97 + ·)):=⟨by decide,by decide⟩;have S:((List.range 26).map (97 + ·)).length=26:=rfl;generalize(List.range 26).map (97 + ·)=p0 at J T S;symm;refine⟨K5 _,λd o=>h1 _ _ ?_⟩;clear h1;generalize Z:aE H1 d _=H2;obtain⟨M,e2⟩:=dN o Z;have l:=O.free o;have u:g≠d:=aK J o;symm;refine h1 _ _ ?_;clear h1;generalize c/4=re;symm;obtain⟨m,hm⟩:∃m:Nat,c%4=(m:Int):=⟨_,(Lu (Lr _ ⋯)).symm⟩;have m2:m<4:=by omega
  rw[hm,show(1+(m:Int)).toNat=1+m by omega];refine⟨⋯,⋯,?_⟩;refine bv (lo:=0) (n:=1+m) (λi σ e=>i<=1+m/\aD H e/\∃(a r:LA) (b:Int) (x:Option V),e g=some (.lst (a.map λc=>V.str ⟨#[c]⟩))/\e d=some (.lst (au (ce r)))/\a.length+i=26/\r.length=i/\Cz (r++a)/\σ=[some (V.int c),some (V.ref g),some (V.ref d),some (V.int b),x]) ⟨⋯,O.trans M,p0,[],re,none,M _ _ J,e2,S,rfl,T,rfl⟩ ?_ ?_
  ·rintro i σ e hi ⟨jS,sm,a,r,b,x,B,C,p,R,D,rfl⟩
   symm;have h0:0<=b%(a.length:Int):=Lr _ ⋯;have hl:b%(a.length:Int)<a.length:=Ls _ ⋯;obtain⟨k,hk⟩:∃k:Nat,b%(a.length:Int)=(k:Int):=⟨_,(Lu h0).symm⟩;have y:k<a.length:=by omega
   obtain⟨j,z⟩:∃j,a[k]?=some j:=⟨_,Kz y⟩;have G:seqIndex? (k:Int) a.length=some k:=by unfold seqIndex?;simp;omega
   have e3:(a.map λc=>V.str ⟨#[c]⟩).eraseIdx k=(a.eraseIdx k).map λc=>V.str ⟨#[c]⟩:=qo ..;refine⟨.inl ⟨rfl,_,aN.of C⟩,.inl ⟨rfl,_,aN.of B⟩,_,aN.of B,by rw[KD];omega,_,B,by rw[KD];omega,by rw[KD];omega,k,by rw[KD,hk];exact G,_,by rw[KG,z];rfl,?_⟩;rw[e3];have I:aE e g (.lst ((a.eraseIdx k).map λc=>V.str ⟨#[c]⟩)) d=some (.lst (au (ce r))):=by rw[av (Ne.symm u)];exact C
   refine⟨_,I,by rw[am];unfold ce;rw[KD];exact aR ⋯,h1 _ _ ?_⟩;clear h1;have e4:au (ce r)++[V.str ⟨#[j]⟩]=au (ce (r++[j])):=by unfold au ce;rw[KQ,KQ];rfl
   rw[e4];have L:aD H (aE (aE e g (.lst ((a.eraseIdx k).map λc=>V.str ⟨#[c]⟩))) d (.lst (au (ce (r++[j]))))):=bz (bz sm v) l;have Y:aE (aE e g (.lst ((a.eraseIdx k).map λc=>V.str ⟨#[c]⟩))) d (.lst (au (ce (r++[j])))) g=some (.lst ((a.eraseIdx k).map λc=>V.str ⟨#[c]⟩)):=by rw[av u];exact af
   have U:aE (aE e g (.lst ((a.eraseIdx k).map λc=>V.str ⟨#[c]⟩))) d (.lst (au (ce (r++[j])))) d=some (.lst (au (ce (r++[j])))):=af;generalize aE (aE e g _) d _=H3 at L Y U ⊢;have el:(a.eraseIdx k).length=a.length-1:=List.length_eraseIdx_of_lt y;ext;exact⟨⋯,⋯,⋯,L,a.eraseIdx k,Y,r++[j],U,⋯,by simp[R],D.pop z⟩
  ·rintro σ e ⟨_,sm,a,r,b,x,B,C,p,R,D,rfl⟩
   refine h1 _ _ ?_;ext;exact q d r e l C (Cz.sig ⟨λx hx=>D.sm x (q0D _ hx),(List.nodup_append.mp D.nd).1⟩ ⋯ ⋯) ⋯ ⋯ sm
theorem xt:∀n,n<26->(Str.ofString "ABCDEFGHIJKLMNOPQRSTUVWXYZ").cps.toList[n]?=some (65+n):=by decide +kernel
def AV(c:Nat):Bool:=Fz Fo c
theorem wv:∀n,n<26->AV (65+n)=true:=by decide +kernel
theorem EF(x:Int):∃n:Nat,n<26/\x%26=(n:Int):=⟨(x%26).toNat,⋯,⋯⟩
theorem m7{r:LA}(h:∀x∈r,AV x=true)(h1:1<=r.length)(h4:r.length<=4):di r=true:=by
 have a:r.all (Fz Fo)=true:=Ln.mpr h;unfold di jy;rw[a];simp;omega
theorem oj{t u:TS}{σ:St}(h:∀t' u',t'=t->u'=u->p6 c t' u' D σ H):p6 c t u D σ H:=h t u rfl rfl
abbrev lh:Stmt:=fS 58
inductive pJ(vs:List V)(H:Hp)(Q:VK)(_E:XK):Prop
 |mk (c:Int) (_:vs=[.int c]) (_:∀(l:Addr) (p:aL) (H':Hp),H l=none->H' l=some (.lst (au p))->1<=p.length->p.length<=4->(∀r∈p,di r=true)->aD H H'->Q (.ref l) H')
theorem wk:aI ["_law_cell_here","_law_letters","_law_many","_law_rest","_law_names_here","_law_k","_law_size","_law_name","_law_j","_law_extra","_law_letter"] ["_law_cell_here"] (ax lh):=by walk_at "c"
theorem vN{f:Addr}(F:dw K "_law_names" "_law_names" lh f fd)(nb:NB mg):↑bC 1 f fd ["_law_cell_here"] pJ:=by
 have sc:=wk;walk_at "f"
 ·obtain⟨c,rfl,q⟩:=h
  refine⟨_,(ae (aG (i:=1) sc.nd rfl (Or.inr rfl) nV)
   (ae (q01 2 sc.nd (ay (bE.m0 bK) aj (ay (bE.m1 aZ) (ay (bE.m1 bc) (ar 0) aj) aj)))
   (ae (aG (i:=3) sc.nd rfl (Or.inr rfl) (ay (bE.m1 bc) (ar 0) aj))
   (ae (q01 4 sc.nd (bw ad))
   (ae (bX (aQ dz (ay (bE.m1 aZ) (ar 0) aj) aj (a_ _))
   (ae (aS PassesOwn.never rfl (bL rfl nb.range (ac (ar 2) ad)) (q02 5 sc.nd)
   (ae (q01 6 sc.nd (ay (bE.m0 bK) aj (ay (bE.m1 aZ) (ar 3) aj)))
   (ae (aG (i:=3) sc.nd rfl (Or.inr rfl) (ay (bE.m1 bc) (ar 3) aj))
   (ae (q01 7 sc.nd nV)
   (ae (aS PassesOwn.never rfl (bL rfl nb.range (ac (ar 6) ad)) (q02 8 sc.nd)
   (ae (q01 7 sc.nd (ay h_ (ar 7) (aY nB (ar 1) (ay (bE.m1 aZ) (ar 3) aj) (λ_ _=>rfl))))
   (ai (aG (i:=3) sc.nd rfl (Or.inr rfl) (ay (bE.m1 bc) (ar 3) aj)))))
   (ai (bg (q03 (ar 4) (ac (ar 7) ad)))))))))
   (ai (aP (ar 4))))
   bj)
   (ae (bX (aQ dz (ay (bE.m1 aZ) (ay (bE.m1 bc) (ar 3) aj) aj) aj (a_ _))
   (ai (aP (cq ["_law_k"] [1,3] rfl (bP.of (by kernel_rfl)) (by kernel_rfl) (bL rfl nb.range (ac (ar 2) ad))
    (λ_ _ _ _=>(aw (i:=0) (by show(["_law_k","_law_letters","_law_rest"]:List Str).Nodup;decide +kernel) rfl (Or.inl rfl))) (λ_ _ _ _=>b9) (λ_ _ _ _=>(ay C7 (aY nB (ar 1) (ay (bE.m1 aZ) (ay (bE.m1 bc) (ar 2) aj) aj) (λ_ _=>rfl)) (ay (bE.m0 bK) aj (ar 0)))))))
   bj)
   (ae (q01 9 sc.nd (aY bd (bw (fO (fO (fO (fO ad))))) (ay (bE.m1 aZ) (ar 3) aj) (λ_ _=>rfl)))
   (ae (aS PassesOwn.never rfl (bL rfl nb.range (ac (ar 2) ad)) (q02 5 sc.nd)
   (ae (q01 10 sc.nd (aY nB (ar 1) (ay (bE.m1 aZ) (ay (bE.m0 bK) (ay (bE.m1 aZ) (ay (bE.m1 bc) (ar 3) aj) aj) (ay (bE.m1 eD) (ay (bE.m0 bK) aj (ay (bE.m1 eD) aj (ay (bE.m1 aZ) (ay (bE.m1 bc) (ar 3) aj) aj))) (ar 5))) aj) (λ_ _=>rfl)))
   (ai (bg (q03 (ar 4) (ac (aY bd (bw (ac (ay h_ (ar 10) (ar 9)) (ac (ay h_ (ar 9) (ar 10)) ad))) (ay (bE.m1 aZ) (ay (bE.m1 bc) (ar 3) aj) aj) (λ_ _=>rfl)) ad))))))
   (ai (aP (ar 4))))))))))),?_⟩
  obtain⟨m,hm⟩:∃m:Nat,c/2%4=(m:Int):=⟨_,(Lu (Lr _ ⋯)).symm⟩;have m2:m<4:=by omega
  have em:(1+(m:Int)).toNat=1+m:=by omega
  symm;refine h1 _ _ ?_;grind;rw[hm];refine h1 _ _ ?_;grind;refine h1 _ _ ?_;clear h1;generalize c/8=a;symm;refine⟨K5 _,λG o=>h1 _ _ ?_⟩;clear h1;generalize M:aE H G _=H1;obtain⟨T,e1⟩:=dN o M;have snoc:∀{p:aL} {r:LA},(∀x∈p,di x=true)->di r=true->∀x∈p++[r],di x=true:=λC rn x b=>by
   rcases KR.mp b with h | h
   ·exact C x h
   ·rw[KF.mp h];exact rn
  refine aq λN1 h1=>?_;refine oj λtA uA eA eB=>?_;ext;refine cD (λ_=>?_) (λ_=>?_)
  ·rw[eA]
   grind;rw[em];refine⟨⋯,⋯,?_⟩;refine bv (n:=1+m) (λi σ g=>aD H g/\(∃p:aL,g G=some (.lst (au p))/\p.length=i/\∀r∈p,di r=true)/\∃a x y u v,σ=[some (V.int c),some (V.str (Str.ofString "ABCDEFGHIJKLMNOPQRSTUVWXYZ")),some (V.int (1+(m:Int))),some (V.int a),some (V.ref G),x,y,u,v,none,none]) ⟨T,⟨[],e1,rfl,λr hr=>nomatch hr⟩,_,_,_,_,_,rfl⟩ ?_ ?_
   ·rintro i σ g S ⟨e,⟨p,D,J,C⟩,a,x,y,u,v,rfl⟩
    obtain⟨Y,a4⟩:∃m:Nat,a%4=(m:Int):=⟨_,(Lu (Lr _ ⋯)).symm⟩;symm;rw[a4];refine h1 _ _ ?_;grind;refine h1 _ _ ?_;clear h1;generalize a/4=re1;symm;refine h1 _ _ ?_;grind;rw[show(1+(Y:Int)).toNat=1+Y by omega];refine⟨⋯,⋯,?_⟩;refine bv (n:=1+Y) (λj σ H2=>H2=g/\∃(a:Int) (r:LA) (y:Option V),r.length=j/\(∀x∈r,AV x=true)/\σ=[some (V.int c),some (V.str (Str.ofString "ABCDEFGHIJKLMNOPQRSTUVWXYZ")),some (V.int (1+(m:Int))),some (V.int a),some (V.ref G),some (V.int i),some (V.int (1+(Y:Int))),some (V.str (tx r)),y,none,none]) ⟨rfl,re1,[],_,rfl,λx b=>(nomatch b),rfl⟩ ?_ ?_
    ·rintro j σ H2 hj ⟨rfl,O,r,y2,rl,Z,rfl⟩
     ext;obtain⟨n,k,L⟩:=EF O;refine⟨by decide,65+n,by rw[L];exact bI (xt n k),?_,_,r++[65+n],by simp[rl],λz hz=>?_,rfl,rZ r [65+n]⟩
     ·rw[aC];exact az (by show _+1<=_;omega)
     ·rcases KR.mp hz with h | h
      ·exact Z z h
      ·rw[KF.mp h];exact wv n k
    ·rintro σ H2 ⟨rfl,O,r,y2,rl,Z,rfl⟩
     refine h1 _ _ ?_;ext;exact⟨.inl ⟨rfl,_,aN.of D⟩,_,D,by rw[am,J];exact aR ⋯,bz e o,p++[r],by rw[af,cF],by rw[K3,J];rfl,snoc C (m7 Z ⋯ ⋯)⟩
   ·rintro σ g ⟨e,⟨p,D,J,C⟩,a,x,y,u,v,rfl⟩
    refine h1 _ _ ?_;ext;exact q G p g o D ⋯ ⋯ C e
  ·rw[eB]
   refine h1 _ _ ?_;clear h1 eA eB;obtain⟨d,d2,hd⟩:=EF (a/4);symm;refine cD (λhc=>?_) (λhc=>h1 _ _ ?_)
   ·rw[em]
    refine⟨⋯,⋯,?_⟩;refine lZ (n:=1+m) (f:=λi=>some (V.str (tx (List.replicate (1+i) [65+d]).flatten))) (λσ=>∃x,σ=[x,some (V.str (Str.ofString "ABCDEFGHIJKLMNOPQRSTUVWXYZ")),some (.int a)]) ⟨_,rfl⟩ ⋯ ?_ ?_
    ·rintro i S σ g N1 N0 ⟨y,rfl⟩ sm k1 k0
     ext;rw[hd];exact⟨by decide,_,bI (xt d d2),[65+d],rfl,1+i,by push_cast;rfl,⋯,⋯,by simp,k1 _ _ _ rfl sm ⟨_,rfl⟩⟩
    ·intro g sm l hl
     rw[i_];have e0:(List.range (1+m)).map (λi=>V.str (tx (List.replicate (1+i) [65+d]).flatten))=au ((List.range (1+m)).map λi=>(List.replicate (1+i) [65+d]).flatten):=by
      unfold au;rw[KS];rfl
     rw[e0];refine q l _ _ (T.free (sm.free hl)) af (by rw[KD,q0J];omega) (by rw[KD,q0J];omega) (λr hr=>?_) (T.trans (sm.trans (ao hl)));obtain⟨i,S,rfl⟩:=Lm.mp hr;have S:=List.mem_range.mp S;refine m7 (λx b=>?_) (by rw[tQ];simp) (by rw[tQ];simp;omega);obtain⟨y,hy,b⟩:=List.mem_flatten.mp b;rw[List.eq_of_mem_replicate hy]at b;rw[KF.mp b];exact wv d d2
   ·symm
    refine⟨az (by decide),λp1 a2=>?_⟩;generalize M:aE H1 p1 _=H2;obtain⟨s2,e2⟩:=dN a2 M;obtain⟨B,a6,R,a1⟩:∃B:List Nat,iG [V.str (Str.ofString ""),V.str (Str.ofString "Q"),V.str (Str.ofString "ZA"),V.str (Str.ofString "MMX")] (a%4)=some (.str (tx B))/\(∀x∈B,AV x=true)/\B.length<=3:=by
     rcases(by omega:a%4=0\/a%4=1\/a%4=2\/a%4=3) with h | h | h | h<;>rw[h]
     ·exact⟨[],rfl,(λx b=>nomatch b),by decide⟩
     ·exact⟨[81],rfl,by decide +kernel,by decide⟩
     ·exact⟨[90,65],rfl,by decide +kernel,by decide⟩
     ·exact⟨[77,77,88],rfl,by decide +kernel,by decide⟩
    refine⟨_,aN.of e2,_,a6,h1 _ _ ?_⟩;grind;rw[em];refine⟨⋯,⋯,?_⟩;refine bv (lo:=0) (n:=1+m) (λi σ g=>aD H g/\(∃p:aL,g G=some (.lst (au p))/\p.length=i/\∀r∈p,di r=true)/\∃x y,σ=[some (V.int c),some (V.str (Str.ofString "ABCDEFGHIJKLMNOPQRSTUVWXYZ")),some (V.int (1+(m:Int))),some (V.int a),some (V.ref G),x,none,none,none,some (V.str (tx B)),y]) ⟨T.trans s2,⟨[],s2 _ _ e1,rfl,λr hr=>nomatch hr⟩,_,_,rfl⟩ ?_ ?_
    ·rintro i σ g S ⟨e,⟨p,D,J,C⟩,x,y,rfl⟩
     symm;obtain⟨n,k,L⟩:=EF (a/4%26+(1+2*(a/104%6))*(i:Int));refine⟨.inr ⟨⋯,⋯⟩,by decide,65+n,by rw[L];exact bI (xt n k),h1 _ _ ?_⟩;clear h1;change xT _ _ _ _;generalize hz:(⟨#[65+n]⟩:Str)=z;ext;have a0:z=tx [65+n]:=hz.symm;subst a0;have hl1:(tx [65+n]).length=1:=rfl;have hl2:(tx B).length<=3:=by rw[aC];exact a1
     refine⟨.inl ⟨rfl,_,aN.of D⟩,az ⋯,az ⋯,az (by decide),λl3 a5=>?_⟩;generalize M:aE g l3 _=H3;obtain⟨s3,e3⟩:=dN a5 M;obtain⟨U,a3,hn⟩:∃U:List Nat,iG [V.str (tx [65+n]++tx B),V.str (tx B++tx [65+n])] (a/624%2)=some (.str (tx U))/\di U=true:=by
      have I:∀x∈[65+n],AV x=true:=λx b=>by rw[KF.mp b];exact wv n k
      rcases(by omega:a/624%2=0\/a/624%2=1) with h | h<;>rw[h]
      ·exact⟨[65+n]++B,by rw[<- rZ];rfl,m7 (λx b=>(KR.mp b).elim (I x) (R x)) (by simp) (by simp;omega)⟩
      ·exact⟨B++[65+n],by rw[<- rZ];rfl,m7 (λx b=>(KR.mp b).elim (R x) (I x)) (by simp) (by simp;omega)⟩
     exact⟨_,aN.of e3,_,a3,_,s3 _ _ D,by rw[am,J];exact aR ⋯,bz (e.trans s3) o,p++[U],by rw[af,cF],by rw[K3,J];rfl,snoc C hn⟩
    ·rintro σ g ⟨e,⟨p,D,J,C⟩,x,y,rfl⟩
     refine h1 _ _ ?_;ext;exact q G p g o D ⋯ ⋯ C e
theorem o_(r:LA):(ce r).flatten=r:=by
 induction r with
 |nil=>rfl
 |cons c r ih=>show c::(ce r).flatten=_;rw[ih]
theorem bN.snoc20{r:Nat×RV}(h:bN R H as rs)(hb:gn R H r.1 b r.2):bN R H (as++[b]) (rs++[r]):=by
 refine⟨by rw[K3,K3,h.1];rfl,λi a x c d=>?_⟩
 by_cases e:i<as.length
 ·rw[K2 e]at c
  rw[K2 (by rw[<- h.1];exact e)]at d;exact h.2 i a x c d
 ·have g:=(KA.mp c).1
  rw[K3,q0Z]at g;have hh:=h.1;rw[K1 ⋯,show i-as.length=0 by omega]at c;rw[K1 ⋯,show i-rs.length=0 by omega]at d;cases c;cases d
  exact hb
theorem bN.put20{lr:Addr}{bs:LD}(h:bN R H as rs)(hl:H lr=some (.lst (bs.map V.ref)))(hx:as=[]\/∃b,b∈bs):bN R (aE H lr o) as rs:=by
 refine⟨h.1,λi a r c g=>?_⟩;obtain⟨j,l,h1,h2⟩:=h.2 i a r c g;refine⟨j,l,by rw[av (λz=>by rw[z,hl]at h1;cases h1)];exact h1,?_⟩;rw[av (λz=>?_)]
 ·exact h2
 ·rw[z,hl]at h2
  injection h2 with h2
  injection h2 with h2
  rcases hx with hx | ⟨b,d⟩
  ·rw[hx]at c;simp at c
  ·have:V.ref b∈au (cC r.1 r.2):=by rw[<- h2];exact Lm.mpr ⟨b,d,rfl⟩
   unfold au at this;obtain⟨y,_,e⟩:=Lm.mp this;cases e
abbrev iO:Stmt:=fS 66
inductive kE(R:RC)(CG:Addr)(vs:List V)(H:Hp)(Q:VK)(_E:XK):Prop
 |mk (l la:Addr) (r st:LA) (ts:LD) (rs:Yaa) (_:vs=[.ref la,.str (tx st),.ref l]) (_:H la=some (.lst (au (ce r)))) (_:cE H l ts rs) (_:(∀r∈rs,kF r)) (_:rs.length<=24) (_:r.length<=4) (_:st.length<=100) (_:oN r st rs=none) (_:∀b db as H',dM R H' CG db b r st as rs->aD H H'->Q (.ref b) H')
theorem r9:aI ["_law_signs_here","_law_start","_law_rules","_law_made","_law_kind","_law_name","_law_cost","_law_one","_law_other"] ["_law_signs_here","_law_start","_law_rules"] (ax iO):=by walk_at "c"
theorem rR{f:Addr}(F:dw K "_law_grammar" "_law_grammar" iO f fd)(nb:NB mg)(rk:lx K R)(gk:HP K CG)
  (zfb:↑kT 4 "CellRule" R.cc ["self","name","cost","sign"] (io K)) (zNa:↑kT 4 "BesideRule" R.cb ["self","name","cost","one","other"] (dv K))
  (zRa:↑kT 4 "AboveRule" R.ca ["self","name","cost","one","other"] (dv K)) (zgb:↑kT 4 "TurnRule" R.ct ["self","name","cost","part","turning"] (g7 K)) (zqb:↑kT 4 "Grammar" CG ["self","signs","start","rules"] (ia K R)):↑bC 6 f fd ["_law_signs_here","_law_start","_law_rules"] (kE R CG):=by
 have sc:=r9;walk_at "f"
 ·obtain⟨l,la,r,st,ts,Z,rfl,a8,o,hg,hn,hsg,hst,g0,q⟩:=h
  have hu:=hr.units;refine⟨_,(ae (q01 3 sc.nd (bw ad))
   (ae (aS PassesOwn.never rfl (bG (ar 2)) (ip (n:=5) rfl (bh (q02 4 sc.nd) (bh (q02 5 sc.nd) (bh (q02 6 sc.nd) (bh (q02 7 sc.nd) (bh (q02 8 sc.nd) dD))))))
   (ai (bX (aQ dz (ar 4) aj (a_ _))
   (ai (bg (q03 (ar 3) (ac (jg zfb (hr.mono (by decide)) rfl aO (ac (ar 5) (ac (ar 6) (ac (ar 7) ad)))) ad))))
   (ai (bX (aQ dz (ar 4) aj (a_ _))
   (ai (bg (q03 (ar 3) (ac (jg zNa (hr.mono (by decide)) rfl aO (ac (ar 5) (ac (ar 6) (ac (ar 7) (ac (ar 8) ad))))) ad))))
   (ai (bX (aQ dz (ar 4) aj (a_ _))
   (ai (bg (q03 (ar 3) (ac (jg zRa (hr.mono (by decide)) rfl aO (ac (ar 5) (ac (ar 6) (ac (ar 7) (ac (ar 8) ad))))) ad))))
   (ai (bg (q03 (ar 3) (ac (jg zgb (hr.mono (by decide)) rfl aO (ac (ar 5) (ac (ar 6) (ac (ar 7) (ac (ar 8) ad))))) ad)))))))))))
   (ai (aP (jg zqb (hr.mono (by decide)) rfl aO (ac (@qK _ _ _ _ _ _ _ _ (ac (ar 0) ad) rfl rfl) (ac (ar 1) (ac (ar 3) ad)))))))),?_⟩
  symm;refine⟨K5 _,λL a4=>h1 _ _ ?_⟩;clear h1;generalize z0:aE H L _=H1;obtain⟨s1,e1⟩:=dN a4 z0;symm;refine⟨⟨_,aN.of (s1 _ _ o.1)⟩,?_⟩;have a7:=o.2.1;refine bW (xs:=ts.map V.ref) (λi σ G=>aD H G/\i<=ts.length/\(∃M:List Addr,G L=some (.lst (M.map V.ref))/\bN R G M (Z.take i))/\∃x4 x5 x6 x7 x8,σ=[some (V.ref la),some (V.str (tx st)),some (V.ref l),some (V.ref L),x4,x5,x6,x7,x8]) ⟨s1,K5 _,⟨[],e1,⟨rfl,λi a r e=>by simp at e⟩⟩,_,_,_,_,_,rfl⟩ (λi σ G _ h=>aN.of (h.1 _ _ o.1)) ?_ ?_
  ·rintro i x σ G B ⟨sm,_,⟨M,z,hA⟩,x4,x5,x6,x7,x8,rfl⟩
   rw[KG]at B;obtain⟨t,ht,rfl⟩:=K8.mp B;have hi:=(KA.mp ht).1;obtain⟨⟨k,v⟩,hr⟩:∃r,Z[i]?=some r:=⟨_,Kz ⋯⟩;have a6:=sm _ _ (o.2.2 i t (k,v) ht hr);obtain⟨hk,g,S⟩:=hg _ (KH hr);have T:=dO.of (K:=K) a6;have g:v.good:=g;have bn:v.n.length<=100000:=by have:=S.n;simp only at this;omega
   have b1:v.o1.length<=100000:=by have:=S.o1;simp only at this;omega
   have b2:v.o2.length<=100000:=by have:=S.o2;simp only at this;omega
   have bs:v.sg.length<=100000:=by have:=S.sg;simp only at this;omega
   have b0:=hA.1;rw[Lg]at b0;have a5:Z.take (i+1)=Z.take i++[(k,v)]:=by rw[q0E,hr];rfl
   have fin:∀b d D H2,H2 b=some (.ins (R.at k) d (rU k D v))->H2 D=some (.lst (au (cC k v)))->D≠L->aD G H2->∃xs,H2 L=some (.lst xs)/\xs.length<sizeLine/\aD H (aE H2 L (.lst (xs++[V.ref b])))/\i+1<=ts.length/\∃M,aE H2 L (.lst (xs++[V.ref b])) L=some (.lst (M.map V.ref))/\bN R (aE H2 L (.lst (xs++[V.ref b]))) M (Z.take (i+1)):=λb d D H2 hb j m s2=>by
    have h2:=s2 _ _ z;refine⟨_,h2,by rw[KD];exact aR ⋯,bz (sm.trans s2) a4,hi,M++[b],by rw[af,KQ];rfl,?_⟩;rw[a5];refine bN.snoc20 ((hA.up s2).put20 h2 ?_) ⟨d,D,by rw[av (λe=>by rw[e,h2]at hb;cases hb)];exact hb,by rw[av m];exact j⟩;cases M with
    |nil=>exact .inl rfl
    |cons a M=>exact .inr ⟨a,q0B ..⟩
   have sN:∀{x d:Addr} {C:Addr},G x=none->G d=none->d≠x->∀{D:Addr},aE (aE G d (.own x)) x (.ins C d []) D=none->D≠L:=fun{x d C} B J m {D} j e=>by
    rw[e,av (aK z B),av (aK z J),z]at j;cases j
   ext;rcases eM hk with rfl | rfl | rfl | rfl
   ·change dO K G t [.int 0,.str (tx v.n),.int v.c,.str (tx v.sg),.str ""]at T
    refine⟨_,T,rfl,_,_,rfl,_,_,rfl,_,_,rfl,_,_,rfl,_,_,rfl,rfl,rfl,?_⟩;rw[q07 rfl];exact⟨.inl ⟨rfl,_,aN.of z⟩,λx d B J m=>⟨x,R.cc,d,v.n,v.sg,v.c,rfl,af,rk.i0.cl,rk.a0,bn,bs,g.ok 0,λD H2 O j I Y=>⟨rfl,fin x d D H2 Y I (sN B J m j) (je B J O)⟩⟩⟩
   ·change dO K G t [.int 1,.str (tx v.n),.int v.c,.str (tx v.o1),.str (tx v.o2)]at T
    refine⟨_,T,rfl,_,_,rfl,_,_,rfl,_,_,rfl,_,_,rfl,_,_,rfl,rfl,rfl,?_⟩;rw[q06 (by decide)];refine⟨rfl,?_⟩;rw[q07 rfl];exact⟨.inl ⟨rfl,_,aN.of z⟩,λx d B J m=>⟨x,R.cb,d,v.n,v.o1,v.o2,v.c,rfl,af,rk.i1.cl,rk.a1,bn,b1,b2,g.ok 1,λD H2 O j I Y=>⟨rfl,fin x d D H2 Y I (sN B J m j) (je B J O)⟩⟩⟩
   ·change dO K G t [.int 2,.str (tx v.n),.int v.c,.str (tx v.o1),.str (tx v.o2)]at T
    refine⟨_,T,rfl,_,_,rfl,_,_,rfl,_,_,rfl,_,_,rfl,_,_,rfl,rfl,rfl,?_⟩;rw[q06 (by decide)];refine⟨rfl,?_⟩;rw[q06 (by decide)];refine⟨rfl,?_⟩;rw[q07 rfl];exact⟨.inl ⟨rfl,_,aN.of z⟩,λx d B J m=>⟨x,R.ca,d,v.n,v.o1,v.o2,v.c,rfl,af,rk.i2.cl,rk.a2,bn,b1,b2,g.ok 2,λD H2 O j I Y=>⟨rfl,fin x d D H2 Y I (sN B J m j) (je B J O)⟩⟩⟩
   ·change dO K G t [.int 3,.str (tx v.n),.int v.c,.str (tx v.o1),.int v.t]at T
    refine⟨_,T,rfl,_,_,rfl,_,_,rfl,_,_,rfl,_,_,rfl,_,_,rfl,rfl,rfl,?_⟩;rw[q06 (by decide)];refine⟨rfl,?_⟩;rw[q06 (by decide)];refine⟨rfl,?_⟩;rw[q06 (by decide)];exact⟨.inl ⟨rfl,_,aN.of z⟩,λx d B J m=>⟨x,R.ct,d,v.n,v.o1,v.c,v.t,rfl,af,rk.i3.cl,rk.a3,bn,b1,g.ok 3,λD H2 O j I Y=>⟨rfl,fin x d D H2 Y I (sN B J m j) (je B J O)⟩⟩⟩
  ·rintro σ G ⟨sm,_,⟨M,z,hA⟩,x4,x5,x6,x7,x8,rfl⟩
   refine h1 _ _ ?_;rw[KD,a7,Lf]at hA;ext;refine⟨rfl,(ce r).map tx,.inl (by rw[<- d8];exact aN.of (sm _ _ a8)),?_,λx d B a9 m=>?_⟩
   ·have h1:=gH (p:=ce r) (n:=1) λy hy=>by
     obtain⟨c,_,rfl⟩:=Lm.mp hy;exact K4 _
    have h2:(ce r).length=r.length:=by unfold ce;rw[KD]
    have e0:(Str.ofString "").length=0:=rfl;rw[e0];omega
   ·rw[QL.join_nil,o_]
    have U:aD G (aE (aE G d (.own x)) x (.ins CG d [])):=(ao a9).trans (ao (by rw[av (Ne.symm m)];exact B));refine⟨x,CG,d,L,r,st,M,Z,rfl,af,gk.cl.cl,gk.na,⋯,⋯,U _ _ z,hA.up U,λr hr=>(hg r hr).k4,⋯,g0,(λH4 lk pn t O gA _ _ _=>⟨rfl,?_⟩)⟩;exact q x d _ H4 gA.f (sm.trans λb u e=>O b u (aK e B) (U b u e))
abbrev ow:Stmt:=fS 67
inductive lg(K:W.Frag)(vs:List V)(H:Hp)(Q:VK)(_E:XK):Prop
 |mk (a:Addr) (p:aL) (_:vs=[.ref a]) (_:H a=some (.lst (au p))) (_:dl p) (_:Q (.str (tx (bu p))) H)
theorem yq:aI ["_law_picture"] ["_law_picture"] (ax ow):=by walk_at "c"
theorem zn{f:Addr}(F:dw K "_law_text" "_law_text" ow f fd)(nb:NB mg):↑bC 1 f fd ["_law_picture"] (lg K):=by
 have sc:=yq;walk_at "f"
 ·obtain⟨a,p,rfl,c,b,q⟩:=h
  refine⟨_,(ai (aP (@qK _ _ _ _ _ _ _ _ (ac (ar 0) ad) rfl rfl))),?_⟩;ext;refine⟨rfl,p.map tx,.inl (by rw[<- d8];exact aN.of c),?_,?_⟩
  ·have:=gH b.2
   have h1:=b.1;have d:(Str.ofString "/").length=1:=rfl;rw[KD,d];have h2:p.length*64<=64*64:=Nat.mul_le_mul_right _ h1;omega
  ·rw[xU];exact q
abbrev j0:Stmt:=fS 60
inductive fV(K:W.Frag)(vs:List V)(H:Hp)(Q:VK)(_E:XK):Prop
 |mk (a:Addr) (p:aL) (r c t:Nat) (_:vs=[.ref a,.int (t:Int)]) (_:H a=some (.lst (au p))) (_:rect p r c) (_:0<r) (_:0<c) (_:r<=64) (_:c<=64) (_:t<8) (_:∀l H',H l=none->H' l=some (.lst (au (turned p t)))->aD H H'->Q (.ref l) H')
theorem uf:aI ["_law_picture","_law_t","_law_found","_law_k"] ["_law_picture","_law_t"] (ax j0):=by walk_at "c"
theorem vA{f:Addr}(F:dw K "_law_turned" "_law_turned" j0 f fd)(nb:NB mg):↑bC 1 f fd ["_law_picture","_law_t"] (fV K):=by
 have sc:=uf;walk_at "f"
 ·obtain⟨a,p,r,c,t,rfl,hS,hp,L,T,J,S,ht,q⟩:=h
  refine⟨_,(ae (aG (i:=2) sc.nd rfl (Or.inr rfl) (cV cN rfl nb.list eF (ac (ar 0) ad)))
   (ae (bX (aQ (bE.m0 mj) (ar 1) aj (a_ _))
   (ai (aG (i:=2) sc.nd rfl (Or.inr rfl) (cq ["_law_row"] [] rfl (bP.of (by kernel_rfl)) (by kernel_rfl) (bG (ar 2))
    (λ_ _ _ _=>(aw (i:=0) (by show(["_law_row"]:List Str).Nodup;decide +kernel) rfl (Or.inl rfl))) (λ_ _ _ _=>b9) (λ_ _ _ _=>(nu rfl rfl nb.reversed (ac (ar 0) ad))))))
   bj)
   (ae (aS PassesOwn.never rfl (bL rfl nb.range (ac (ay (bE.m1 aZ) (ar 1) aj) ad)) (q02 3 sc.nd)
   (ai (aG (i:=2) sc.nd rfl (Or.inr rfl) (cq ["_law_j"] [2] rfl (bP.of (by kernel_rfl)) (by kernel_rfl) (bL rfl nb.range (ac (aB bi rfl nb.len aX (ac (aY bd (ar 2) aj (λ_ _=>rfl)) ad)) ad))
    (λ_ _ _ _=>(aw (i:=0) (by show(["_law_j","_law_found"]:List Str).Nodup;decide +kernel) rfl (Or.inr rfl))) (λ_ _ _ _=>b9) (λ_ _ _ _=>(@Fg _ K _ _ _ _ _ _ _ rfl (ac (cq ["_law_row"] [0] rfl (bP.of (by kernel_rfl)) (by kernel_rfl) (DX (K:=K) rfl rfl nb.reversed (ac (ar 1) ad))
    (λ_ _ _ _=>(aw (i:=0) (by show(["_law_row","_law_j"]:List Str).Nodup;decide +kernel) rfl (Or.inl rfl))) (λ_ _ _ _=>b9) (λ_ _ _ _=>(aY nB (ar 0) (ar 1) (λ_ _=>rfl)))) ad) rfl rfl))))))
   (ai (aP (ar 2)))))),?_⟩
  symm;refine⟨_,.inl (aN.of hS),λl k=>h1 _ _ ?_⟩;clear h1;generalize z0:aE H l _=H1;obtain⟨s1,e1⟩:=dN k z0;refine aq λN2 h2=>?_;have u:∀(z:Addr) (g:aL) (H2:Hp),H z=none->H2 z=some (.lst (au g))->aD H H2->rect g r c->turned p t=aT (t%4) g->N2 [some (V.ref a),some (V.int (t:Int)),some (V.ref z),none] H2:=by
   intro z g H2 o a3 a0 a1 et;refine h2 _ _ ?_;clear h2;refine aq λN3 h3=>?_;ext;refine⟨⋯,⋯,?_⟩;have e4:((t:Int)%4).toNat=t%4:=by omega
   rw[e4];refine bv (lo:=0) (n:=t%4) (λi σ Z=>∃(v:Addr) (x:Option V),σ=[some (V.ref a),some (V.int (t:Int)),some (V.ref v),x]/\H v=none/\Z v=some (.lst (au (aT i g)))/\aD H Z) ⟨z,_,rfl,o,a3,a0⟩ ?_ ?_
   ·rintro i σ Z hi ⟨v,x,rfl,R,Y,m⟩
    have hq:=cZ i a1 L T;obtain⟨r',c',C,g4,g5,g6⟩:∃r' c',rect (aT i g) r' c'/\0<r'/\r'<=64/\c'<=64:=by
     by_cases jS:i%2=0
     ·rw[q07 jS,q07 jS]at hq;exact⟨r,c,hq,L,J,S⟩
     ·rw[q06 jS,q06 jS]at hq;exact⟨c,r,hq,T,S,J⟩
    have M:aT (i+1) g=bF (aT i g):=(cM 1 i g).symm;generalize aT i g=pq at Y C M;obtain⟨a2,d⟩:=dA C g4;ext;refine⟨_,aN.of Y,_,bI (j:=0) (br a2),_,rfl,by rw[aC];exact az ⋯,⋯,by rw[aC];omega,?_⟩;rw[aC,d,KN];refine lZ (n:=c') (f:=λj=>some (V.str (tx (rE pq j)))) (λσ=>∃x,σ=[x,some (V.ref v)]) ⟨_,rfl⟩ ⋯ ?_ ?_
    ·rintro j hj σ H4 M1 M0 ⟨y,rfl⟩ G k1 k0
     have U:=G _ _ Y;ext;have hd:∀n,((pq.reverse.take n).map λr=>V.str ⟨#[r.getD j 0]⟩)=(((pq.reverse.take n).map λr=>r.getD j 0).map λc=>(⟨#[c]⟩:Str)).map V.str:=λn=>by rw[KS,KS];rfl
     refine⟨rfl,_,aN.of U,uO (xs:=au pq) (λn b σ D=>D=H4/\b=((pq.reverse.take n).map λr=>V.str ⟨#[r.getD j 0]⟩)/\n<=pq.length/\∃x,σ=[x,some (.int (j:Int))]) ⟨rfl,rfl,K5 _,none,by simp⟩ ?_ ?_ ?_ ?_ ?_⟩
     ·rintro n b σ D ⟨_,rfl,_⟩
      rw[KD,Lg,KY,C.1];exact aR ⋯
     ·rintro n b σ D ⟨_,_,h,_⟩
      rw[am];exact h
     ·rintro n b σ D ⟨rfl,_⟩
      exact aN.of U
     ·rintro n x b σ D hx ⟨rfl,rfl,hn,y,rfl⟩
      have k:n<pq.reverse.length:=by
       have:=(KA.mp hx).1
       rwa [KY,am,<- KY (as:=pq)]at this
      have I:(au pq.reverse)[n]?=some x:=by unfold au at hx ⊢;rwa [List.map_reverse]
      rw[br k]at I;cases I;have hm:pq.reverse[n]∈pq:=List.mem_reverse.mp (KM k);have hr:=C.2 _ hm;ext;have hc:(tx pq.reverse[n]).cps.toList[j]?=some (pq.reverse[n].getD j 0):=by rw[cX,q0A,Kz ⋯];rfl
      refine⟨by rw[aC];exact az ⋯,_,bI hc,?_,by rw[KY]at k;exact k⟩;rw[q0E,Kz k,KQ]
      rfl
     ·rintro b σ D ⟨rfl,rfl,_⟩ l k
      rw[am,<- KY (as:=pq),Lf]at *;refine⟨(rE pq j).map λc=>(⟨#[c]⟩:Str),.inl (aN.of ?_),?_,?_⟩
      ·rw[af];unfold rE;rw[KS,KS];rfl
      ·rw[KS]
       have e:((λy:Str=>y.length)∘λc=>(⟨#[c]⟩:Str))=λ_=>1:=by funext c;rfl
       have e0:(Str.ofString "").length=0:=rfl;have e2:(rE pq j).length=pq.length:=by unfold rE;rw[KD,KY]
       rw[e,List.map_const',List.sum_replicate_nat,KD,e0,e2,C.1];omega
      ·rw[jc]
       exact k1 _ _ _ rfl (G.trans (ao k)) ⟨_,rfl⟩
    ·intro H4 G l4 O
     rw[i_];refine⟨m.free (G.free O),?_,m.trans (G.trans (ao O))⟩;rw[af,M];unfold bF au;rw[bf C g4,KS];rfl
   ·rintro σ Z ⟨v,x,rfl,R,Y,m⟩
    refine h3 _ _ ?_;ext;exact q v Z R (by rw[et];exact Y) m
  ext;refine cD (λh3=>⟨⟨_,aN.of e1⟩,?_⟩) (λh3=>u l p H1 k e1 s1 hp (by unfold turned;rw[q06 ⋯]));refine dI (as:=p) (emb:=λrow=>V.str (tx row)) (f:=λrow=>some (V.str (tx row.reverse))) (λσ=>∃x,σ=[x]) ⟨_,rfl⟩ (λH2 B=>aN.of (B _ _ e1)) (by rw[hp.1];omega) ?_ ?_
  ·rintro j row d σ H2 M1 M0 ⟨y,rfl⟩ B k1 k0
   have hrl:=hp.2 row (KH d);ext;refine⟨by rw[aC];omega,by decide,?_⟩;rw[cX,jc];exact k1 _ _ _ rfl B ⟨_,rfl⟩
  ·intro H2 B z o
   rw[i_];have em:p.map (λrow=>V.str (tx row.reverse))=au (mirror p):=by unfold au mirror;rw[KS];rfl
   rw[em];exact u z (mirror p) _ (s1.free (B.free o)) af (s1.trans (B.trans (ao o))) (cw hp) (by unfold turned;rw[q07 ⋯])
abbrev oH:Stmt:=fS 61
inductive qJ(vs:List V)(H:Hp)(Q:VK)(_E:XK):Prop
 |mk (t:Nat) (_:vs=[.int (t:Int)]) (_:t<8) (_:Q (.int (df t:Nat)) H)
theorem yQ:aI ["_law_t"] ["_law_t"] (ax oH):=by walk_at "c"
theorem yT{f:Addr}(F:dw K "_law_back" "_law_back" oH f fd):↑bC 1 f fd ["_law_t"] qJ:=by
 have sc:=yQ;walk_at "f"
 ·obtain⟨t,rfl,ht,q⟩:=h
  refine⟨_,(ae (bX (aQ (bE.m0 mj) (ar 0) aj (a_ _))
   (ai (aP (ar 0)))
   bj)
   (ai (aP (ay (bE.m1 aZ) (ay (bE.m0 iX) aj (ar 0)) aj)))),?_⟩
  ext
  split
  ·have e:((df t:Nat):Int)=(t:Int):=by unfold df;rw[q06 ⋯]
   rw[<- e];exact q
  ·have e:((df t:Nat):Int)=(4-(t:Int))%4:=by unfold df;rw[q07 ⋯];omega
   rw[<- e];exact q
def pC(k:Nat)(p q:aL):Option aL:=if k=1/\p.length=q.length then some (oU true p q) else if k=2/\(p.headD []).length=(q.headD []).length then some (oU false p q) else none
abbrev rQ:Stmt:=fS 62
inductive uv(K:W.Frag)(vs:List V)(H:Hp)(Q:VK)(_E:XK):Prop
 |mk (a b:Addr) (p q:aL) (k r c r' c':Nat) (_:vs=[.int (k:Int),.ref a,.ref b]) (_:H a=some (.lst (au p))) (_:H b=some (.lst (au q))) (_:rect p r c) (_:rect q r' c') (_:0<r) (_:r<=6) (_:0<c) (_:c<=6) (_:0<r') (_:r'<=6) (_:0<c') (_:c'<=6) (_:k<4) (_:(pC k p q=none->∀H',aD H H'->Q .non H')) (_:∀pq,pC k p q=some pq->∀l H',H l=none->H' l=some (.lst (au pq))->aD H H'->Q (.ref l) H')
theorem A7:aI ["_law_kind","_law_one","_law_other"] ["_law_kind","_law_one","_law_other"] (ax rQ):=by walk_at "c"
theorem Ar{f:Addr}(F:dw K "_law_put" "_law_put" rQ f fd)(nb:NB mg):↑bC 1 f fd ["_law_kind","_law_one","_law_other"] (uv K):=by
 have sc:=A7;walk_at "f"
 ·obtain⟨a,b,p,q,k,r,c,r',c',rfl,G,D,J,I,Y,r6,c0,c6,m,r6',c0',c6',k4,q0,Z⟩:=h
  refine⟨_,(ae (bX (PW.pt (gw (aQ dz (ar 0) aj (a_ _)) (fu (aQ dz (aB aU rfl nb.len aX (ac (ar 1) ad)) (aB aU rfl nb.len aX (ac (ar 2) ad)) (a_ _)))))
   (ai (aP (cq ["_law_a","_law_b"] [] rfl (bP.of (by kernel_rfl)) (by kernel_rfl) (Ba rfl nb.zip (ac (ar 1) (ac (ar 2) ad)))
    (λ_ _ _ _=>(m6 (K:=K) (n:=2) rfl rfl (bh (aw (i:=0) (by show(["_law_a","_law_b"]:List Str).Nodup;decide +kernel) rfl (Or.inl rfl)) (bh (aw (i:=1) (by show(["_law_a","_law_b"]:List Str).Nodup;decide +kernel) rfl (Or.inl rfl)) dD)))) (λ_ _ _ _=>b9) (λ_ _ _ _=>(ay h_ (ar 0) (ar 1))))))
   bj)
   (ae (bX (PW.pt (gw (aQ dz (ar 0) aj (a_ _)) (fu (aQ dz (aB bi rfl nb.len aX (ac (aY bd (ar 1) aj (λ_ _=>rfl)) ad)) (aB bi rfl nb.len aX (ac (aY bd (ar 2) aj (λ_ _=>rfl)) ad)) (a_ _)))))
   (ai (aP (ay BE (ar 1) (ar 2))))
   bj)
   (ai (aP kM)))),?_⟩
  symm;have hplen:p.length=r:=J.1;have hqlen:q.length=r':=I.1;have e1:=bf J Y;have e2:=bf I m;have tail:N1 [some (V.int (k:Int)),some (V.ref a),some (V.ref b)] H\/True:=.inr trivial;have ci:¬ (k=1/\p.length=q.length)->N1 [some (V.int (k:Int)),some (V.ref a),some (V.ref b)] H:=by
   intro hn;refine h1 _ _ ?_;clear h1;obtain⟨R,U⟩:=dA J Y;obtain⟨u,C⟩:=dA I m;refine aq λN1 h1=>?_;have no:¬ (k=2/\(p.headD []).length=(q.headD []).length)->N1 [some (V.int (k:Int)),some (V.ref a),some (V.ref b)] H:=by
    intro O;refine h1 _ _ ?_;ext;exact q0 (by unfold pC;rw[q06 hn,q06 O]) H (λ_ _ e=>e)
   ext;refine cD (λv=>?_) (λv=>no (λz=>v ⋯));refine⟨_,aN.of G,_,(show iG _ ((0:Nat):Int)=_ from bI (br R)),_,rfl,by rw[aC];exact az ⋯,_,aN.of D,_,(show iG _ ((0:Nat):Int)=_ from bI (br u)),_,rfl,by rw[aC];exact az ⋯,?_⟩;rw[aC,aC,U,C];refine cD (λhc=>?_) (λhc=>no (λz=>hc (by rw[e1,e2]at z;omega)));refine⟨_,G,_,D,by rw[am,am];exact az ⋯,λl g=>?_⟩;exact Z (oU false p q) (by unfold pC;rw[q06 hn,q07 ⟨⋯,by rw[e1,e2];omega⟩]) l _ g (by rw[af];unfold oU au;rw[q06 (by decide),KQ]) (ao g)
  refine cD (λv=>⟨_,aN.of G,_,aN.of D,?_⟩) (λv=>ci (λz=>v ⋯));rw[am,am];refine cD (λg=>?_) (λg=>ci (λz=>g ⋯));have M:p.length=q.length:=by omega
  refine⟨_,aN.of G,_,aN.of D,?_⟩;have o:(oU true p q).length=r:=by show((p.zip q).map _).length=_;rw[KD,q0N];omega
  refine Ce (xs:=au p) (ys:=au q) (n:=r) (by rw[am,am];omega) (λi d σ j=>aD H j/\d=au ((oU true p q).take i)/\i<=r/\∃y z,σ=[y,z]) ⟨λ_ _ e=>e,rfl,K5 _,_,_,rfl⟩ ?_ ?_ ?_ ?_ ?_
  ·rintro i d σ j ⟨_,rfl,S,_⟩
   rw[am,Lg];exact aR ⋯
  ·rintro i d σ j ⟨_,_,h,_⟩
   exact h
  ·rintro i d σ j ⟨sm,_⟩
   exact⟨aN.of (sm _ _ G),aN.of (sm _ _ D)⟩
  ·rintro i x y d σ j T L hy ⟨sm,rfl,_,y1,z1,rfl⟩ hT
   have S:i<p.length:=by have:=(KA.mp L).1;rwa [am]at this
   have B:i<q.length:=by omega
   rw[br S]at L;rw[br B]at hy;cases L;cases hy;have hrow:=J.2 _ (KM S);have hrow':=I.2 _ (KM B);ext;refine⟨_,dO.of af,rfl,_,_,rfl,_,_,rfl,rfl,?_⟩;have e:(oU true p q)[i]?=some (p[i]++q[i]):=by
    show((p.zip q).map λx=>x.1++x.2)[i]?=_;rw[KG,Kz (by rw[q0N];omega),List.getElem_zip];rfl
   refine⟨_,rfl,_,rfl,by rw[aC,aC];exact az ⋯,sm.trans (ao hT),?_,⋯⟩;rw[rZ,q0E,e];show au _++_=au (_++[p[i]++q[i]]);rw[cF]
  ·rintro d σ j ⟨sm,rfl,_⟩ l g
   rw[<- o,Lf];exact Z _ (by unfold pC;rw[q07 ⟨⋯,M⟩]) l _ (sm.free g) af (sm.trans (ao g))
theorem iJ{p:aL}(h:p≠[])(z:Int):∃nm,nm∈p/\iG (au p) (z%((au p).length:Int))=some (V.str (tx nm)):=by
 have hl:0<p.length:=List.length_pos_iff.mpr h;obtain⟨j,b⟩:∃j:Nat,z%((au p).length:Int)=(j:Int):=⟨_,(Lu (Lr _ (by rw[am];omega))).symm⟩;have a:j<p.length:=by
  have:=Ls z (show(0:Int)<((au p).length:Int) by rw[am];omega);rw[b,am]at this;omega
 exact⟨p[j],KM _,by rw[b];exact bI (br a)⟩
theorem vC{r:LA}(h:r≠[])(z:Int):∃g,g∈r/\iG (au (ce r)) (z%((au (ce r)).length:Int))=some (V.str (tx [g])):=by
 obtain⟨nm,a,e⟩:=iJ (p:=ce r) (by unfold ce;simpa using h) z;obtain⟨g,b,rfl⟩:=Lm.mp a;exact⟨g,b,e⟩
theorem ql{H2 H3:Hp}{t:Addr}(h:cE H l ts rs)(s:aD H H2)(ht:H2 t=none)(hv:H3=aE H2 t (.tup (j7 x))):aD H H3/\H3 l=some (.lst (ts.map V.ref))/\cE (aE H3 l (.lst (ts.map V.ref++[V.ref t]))) l (ts++[t]) (rs++[x]):=by
 subst hv;have a:=s.trans (ao (o:=.tup (j7 x)) ht);have b:=h.up a;exact⟨a,b.1,cE.app b af⟩
abbrev lF:Stmt:=fS 64
inductive nG(vs:List V)(H:Hp)(Q:VK)(_E:XK):Prop
 |mk (lc ln ls:Addr) (cs:List Int) (p:aL) (r:LA) (_:vs=[.ref lc,.ref ln,.ref ls]) (_:H lc=some (.lst (cs.map V.int))) (_:H ln=some (.lst (au p))) (_:H ls=some (.lst (au (ce r)))) (_:p≠[]) (_:r≠[]) (_:cs.length<=100) (_:p.length<=8) (_:r.length<=8) (_:(∀n∈p,di n=true)) (_:(∀c∈r,iB [c]=true)) (_:∀l ts rs H',H l=none->cE H' l ts rs->rs.length=cs.length->(∀x∈rs,iQ p r x)->aD H H'->Q (.ref l) H')
theorem w6:aI ["_law_cells","_law_names_here","_law_signs_here","_law_rules","_law_cell_here","_law_name","_law_cost","_law_one"] ["_law_cells","_law_names_here","_law_signs_here"] (ax lF):=by walk_at "c"
theorem wS{f:Addr}(F:dw K "_law_noise" "_law_noise" lF f fd)(nb:NB mg):↑bC 1 f fd ["_law_cells","_law_names_here","_law_signs_here"] nG:=by
 have sc:=w6;walk_at "f"
 ·obtain⟨lc,ln,ls,cs,p,r,rfl,O,a3,a2,S,r0,c100,p8,r8,B,a0,q⟩:=h
  refine⟨_,(ae (q01 3 sc.nd (bw ad))
   (ae (aS PassesOwn.never rfl (bG (ar 0)) (q02 4 sc.nd)
   (ae (q01 5 sc.nd (aY bd (ar 1) (ay (bE.m1 aZ) (ay (bE.m1 bc) (ar 4) aj) (aB aU rfl nb.len aX (ac (ar 1) ad))) (λ_ _=>rfl)))
   (ae (q01 6 sc.nd (ay (bE.m0 bK) aj (ay (bE.m1 aZ) (ay (bE.m1 bc) (ar 4) aj) aj)))
   (ae (q01 7 sc.nd (aY bd (ar 1) (ay (bE.m1 aZ) (ay (bE.m1 bc) (ar 4) aj) (aB aU rfl nb.len aX (ac (ar 1) ad))) (λ_ _=>rfl)))
   (ai (bX (aQ dz (ay (bE.m1 aZ) (ar 4) aj) aj (a_ _))
   (ai (bg (q03 (ar 3) (ac (bO (cy (ac (ar 5) (ac (ar 6) (ac (aY bd (ar 2) (ay (bE.m1 aZ) (ay (bE.m1 bc) (ar 4) aj) (aB aU rfl nb.len aX (ac (ar 2) ad))) (λ_ _=>rfl)) (fO ad)))))) ad))))
   (ai (bX (aQ dz (ay (bE.m1 aZ) (ar 4) aj) aj (a_ _))
   (ai (bg (q03 (ar 3) (ac (bO (cy (ac (ar 5) (ac (ar 6) (ac (ar 7) (ac (ay (bE.m1 aZ) (ay (bE.m1 bc) (ar 4) aj) aj) ad)))))) ad))))
   (ai (bg (q03 (ar 3) (ac (bO (ac (ay (bE.m1 aZ) (ar 4) aj) (ac (ar 5) (ac (ar 6) (ac (ar 7) (ac (aY bd (ar 1) (ay (bE.m1 aZ) (ay (bE.m1 bc) (ar 4) aj) (aB aU rfl nb.len aX (ac (ar 1) ad))) (λ_ _=>rfl)) ad)))))) ad))))))))))))
   (ai (aP (ar 3))))),?_⟩
  symm;refine⟨K5 _,λl hl=>h1 _ _ ?_⟩;clear h1;generalize z0:aE H l _=H1;obtain⟨s1,e1⟩:=dN hl z0;symm;have C:0<(au p).length:=by rw[am];exact List.length_pos_iff.mpr S
  have a1:0<(au (ce r)).length:=by rw[am];unfold ce;rw[KD];exact List.length_pos_iff.mpr r0
  refine⟨⟨_,aN.of (s1 _ _ O)⟩,?_⟩;refine bW (xs:=cs.map V.int) (λi σ n=>aD H n/\i<=cs.length/\(∃G o,cE n l G o/\o.length=i/\∀x∈o,iQ p r x)/\∃Z Y U T,σ=[some (V.ref lc),some (V.ref ln),some (V.ref ls),some (V.ref l),Z,Y,U,T]) ⟨s1,K5 _,⟨[],[],⟨e1,rfl,λi t r e=>by simp at e⟩,rfl,λx I=>nomatch I⟩,_,_,_,_,rfl⟩ (λi σ n _ h=>aN.of (h.1 _ _ O)) ?_ ?_
  ·rintro i x σ n I ⟨sm,_,⟨G,o,R,m,z⟩,Z,Y,U,T,rfl⟩
   rw[KG]at I;obtain⟨c,hc,rfl⟩:=K8.mp I;have hi:=(KA.mp hc).1;have a:=sm _ _ a3;have u:=sm _ _ a2;obtain⟨nm,L,en⟩:=iJ S (c/4);obtain⟨on,J,eo⟩:=iJ S (c/144);obtain⟨n2,M,e2⟩:=iJ S (c/576);obtain⟨g,hg,eg⟩:=vC r0 (c/144);have D:1<=1+c/16%9/\1+c/16%9<=9:=by omega
   have hrl2:=R.2.1;have mk:∀(k:Nat) (t:Int),k<4->0<=t->t<=7->iQ p r (k,⟨nm,1+c/16%9,on,n2,[g],t⟩):=λk t hk t0 t7=>by
    have gd:(⟨nm,1+c/16%9,on,n2,[g],t⟩:RV).good:=⟨B nm L,D.1,D.2,B on J,B n2 M,a0 g hg,t0,t7⟩;exact⟨⟨hk,gd,gd.small⟩,L,J,M,⟨g,hg,rfl⟩⟩
   symm;refine⟨_,aN.of a,Int.ofNat_lt.mpr C,_,aN.of a,_,en,h1 _ _ ?_⟩;grind;refine h1 _ _ ?_;grind;refine⟨_,aN.of a,Int.ofNat_lt.mpr C,_,aN.of a,_,eo,h1 _ _ ?_⟩;clear h1;generalize hcst:1+c/16%9=cs1 at D mk ⊢;have fin:∀x,iQ p r x->∀b,j7 x=b->∀j,n j=none->∃xs,aE n j (.tup b) l=some (.lst xs)/\xs.length<sizeLine/\aD H (aE (aE n j (.tup b)) l (.lst (xs++[V.ref j])))/\i+1<=cs.length/\∃G o,cE (aE (aE n j (.tup b)) l (.lst (xs++[V.ref j]))) l G o/\o.length=i+1/\∀x∈o,iQ p r x:=λx I b ev j d=>by
    subst ev;obtain⟨sA,eA,rA⟩:=ql R (λ_ _ e=>e) d rfl;refine⟨_,eA,by rw[KD];exact aR ⋯,bz (sm.trans sA) hl,hi,_,_,rA,by rw[K3,m];rfl,λy hy=>?_⟩;rcases KR.mp hy with h | h
    ·exact z y h
    ·rw[KF.mp h];exact I
   have v:GX K "list" (V.ref l) n:=.inl ⟨rfl,_,aN.of R.1⟩;ext;refine cD (λh0=>?_) (λh0=>cD (λh3=>?_) (λh3=>?_))
   ·exact⟨v,_,aN.of u,Int.ofNat_lt.mpr a1,_,aN.of u,_,eg,az (by decide),λj d=>fin _ (mk 0 0 (by decide) (by decide) (by decide)) _ rfl j d⟩
   ·exact⟨v,az (by decide),λj d=>fin _ (mk 3 (c/576%8) (by decide) ⋯ ⋯) _ rfl j d⟩
   ·refine⟨v,_,aN.of a,Int.ofNat_lt.mpr C,_,aN.of a,_,e2,az (by decide),λj d=>?_⟩
    rcases(by omega:c%4=1\/c%4=2) with h | h<;>rw[h]
    ·exact fin _ (mk 1 0 (by decide) (by decide) (by decide)) _ rfl j d
    ·exact fin _ (mk 2 0 (by decide) (by decide) (by decide)) _ rfl j d
  ·rintro σ n ⟨sm,_,⟨G,o,R,m,z⟩,Z,Y,U,T,rfl⟩
   refine h1 _ _ ?_;ext;exact q l G o n hl R (by rw[m,KD]) z sm
theorem Am{tb:Tb}{i:Nat}{kv:List cL×V}(h:(tb.map dj)[i]?=some kv):∃e,tb[i]?=some e/\kv=dj e:=by
 rw[KG]at h;obtain⟨e,a,rfl⟩:=K8.mp h;exact⟨e,a,rfl⟩
theorem Dx{H:Hp}{tb:Tb}{v:Int}(nd:(tb.map (·.1)).Nodup)(hd:H d=some (.frz o (.dT (tb.map dj))))(hb:H b=some (.tup (wx k)))(hm:(k,v)∈tb):jr H d (.ref b) (some (.int v)):=
 .inr ⟨tb.map dj,gM k,b,.inr ⟨o,hd⟩,rfl,hb,by rw[gI,ny nd hm];rfl⟩
abbrev lH:Stmt:=fS 71
inductive n9(vs:List V)(H:Hp)(Q:VK)(_E:XK):Prop
 |mk (d:Addr) (tb:Tb) (_:vs=[.ref d]) (_:cv H d tb) (_:(tb.map (·.1)).Nodup) (_:∀H' o,H' d=some (.frz o (.dT (tb.map dj)))->bp d H H'->Q (.bl true) H')
theorem wC:aI ["_law_told","_law_key"] ["_law_told"] (ax lH):=by walk_at "c"
theorem wT{f:Addr}(F:dw K "_law_table" "_law_table" lH f fd)(nb:NB mg)(zzb:↑dP 1 "_law_whole" ["_law_x"] ot):↑bC 2 f fd ["_law_told"] n9:=by
 have sc:=wC;walk_at "f"
 ·obtain⟨d,tb,rfl,l,nd,q⟩:=h
  have m:=hr.units;refine⟨_,(ae (bX (gy (fb (aB b_ rfl nb.isinstance cn (ac (ar 0) (ac (jk (v:=.ty "dict") rfl nb.dict C6 rfl) ad))) λ_=>rfl))
   (ai (aP iA))
   bj)
   (ae (aS PassesOwn.never rfl (FH (ar 0)) (q02 1 sc.nd)
   (ae (bX (PW.pt (qR (gy (fb (aB b_ rfl nb.isinstance cn (ac (ar 1) (ac (jk (v:=.ty "tuple") rfl nb.tuple AY rfl) ad))) λ_=>rfl)) (qR (aQ Eg (aB yO rfl nb.len aX (ac (ar 1) ad)) aj (a_ _)) (pH (gy (fb (q00 zzb hr (ac (i8 (Lk (Lo (by decide:1<=64) _) m) (ar 0) (ar 1) (λ_ _=>rfl)) ad)) λ_=>rfl))))))
   (ai (aP iA))
   bj)
   (ai (bX (PW.pt (qR (gy (fb (aB b_ rfl nb.isinstance cn (ac (aY bV (ar 1) aj (λ_ _=>rfl)) (ac (jk (v:=.ty "str") rfl nb.str Aj rfl) ad))) λ_=>rfl)) (pH (gy (fb (aB b_ rfl nb.isinstance cn (ac (aY bV (ar 1) aj (λ_ _=>rfl)) (ac (jk (v:=.ty "str") rfl nb.str Aj rfl) ad))) λ_=>rfl)))))
   (ai (aP iA))
   bj))))
   (ai (aP iA)))),?_⟩
  symm;refine⟨_,.dT l,_,iZ K "dict",?_⟩;rw[q06 (by decide)];refine h1 _ _ ?_;grind;refine⟨tb.map dj,.inl ⟨l,λo=>?_⟩⟩;have g:bp d H (aE H d (.frz o (.dT (tb.map dj)))):=(bp.of λ_ _ h=>h).put;have j:aE H d (.frz o (.dT (tb.map dj))) d=some (.frz o (.dT (tb.map dj))):=af;generalize aE H d (.frz o (.dT (tb.map dj)))=H1 at g j ⊢;refine Dp (λi σ c=>aD H1 c/\∃x,σ=[some (V.ref d),x]) ⟨λ_ _ h=>h,_,rfl⟩ (λi σ c _ h=>h.1 _ _ j) ?_ ?_
  ·rintro i b kv σ c k r ⟨sm,x,rfl⟩
   obtain⟨e,p,rfl⟩:=Am k;have a:c b=some (.tup (wx e.1)):=r;have n:=Dx nd (sm _ _ j) a (KH p);symm;refine⟨_,.tup a,_,iZ K "tuple",?_⟩;rw[q06 (by decide)];refine⟨_,dO.of a,?_⟩;rw[q06 (by intro h;exact h rfl)];refine⟨_,n,_,rfl,true,rfl,?_⟩;rw[q06 (by decide)];refine h1 _ _ ?_;clear h1;ext;refine⟨_,dO.of a,_,rfl,_,.str _,_,iZ K "str",?_⟩;rw[q06 (by decide)];refine⟨_,dO.of a,_,rfl,_,.str _,_,iZ K "str",?_⟩;rw[q06 (by decide)];exact sm
  ·rintro σ c ⟨sm,x,rfl⟩
   refine h1 _ _ ?_;ext;exact q c o (sm _ _ j) (g.then sm)
structure ii(p:aL)(a b:Nat):Prop where
 rc:rect p a b
 a1:1<=a
 a6:a<=6
 b1:1<=b
 b6:b<=6
 ns:bQ p
structure t9 where
 a:Addr
 lp:Addr
 vt:V
 nm:List Nat
 p:aL
 c:Int
def t9.at(H:Hp)(z:t9):Prop:=H z.a=some (.tup [z.vt,.str (tx z.nm),.ref z.lp,.int z.c])/\H z.lp=some (.lst (au z.p))
theorem t9.at.up{z:t9}(h:z.at H)(s:aD H H'):z.at H':=⟨s _ _ h.1,s _ _ h.2⟩
theorem jI(h:ii p a b):(∃hl:0<p.length,(p[0]).length=b)/\p.length=a:=⟨dA h.rc (show 0<a from h.a1),h.rc.1⟩
abbrev jX:Stmt:=fS 72
inductive md(K:W.Frag)(vs:List V)(H:Hp)(Q:VK)(_E:XK):Prop
 |mk (lt:Addr) (zs:List t9) (c:Int) (_:vs=[.ref lt,.int c]) (_:H lt=some (.lst (zs.map λz=>V.ref z.a))) (_:zs≠[]) (_:(∀z∈zs,z.at H/\∃a b,ii z.p a b)) (_:∀z∈zs,Q (.ref z.a) H)
theorem uV:aI ["_law_trees","_law_cell_here","_law_best","_law_one"] ["_law_trees","_law_cell_here"] (ax jX):=by walk_at "c"
theorem ue{f:Addr}(F:dw K "_law_picked" "_law_picked" jX f fd)(nb:NB mg):↑bC 1 f fd ["_law_trees","_law_cell_here"] (md K):=by
 have sc:=uV;walk_at "f"
 ·obtain⟨lt,e,c,rfl,l,J,C,q⟩:=h
  have g:0<e.length:=List.length_pos_iff.mpr J;refine⟨_,(ae (bX (aQ dz (ay (bE.m1 aZ) (ar 1) aj) aj (a_ _))
   (ai (aP (aY bd (ar 0) (ay (bE.m1 aZ) (ay (bE.m1 bc) (ar 1) aj) (aB aU rfl nb.len aX (ac (ar 0) ad))) (λ_ _=>rfl))))
   bj)
   (ae (q01 2 sc.nd (aY bd (ar 0) aj (λ_ _=>rfl)))
   (ae (aS PassesOwn.never rfl (bG (ar 0)) (q02 3 sc.nd)
   (ai (bX (aQ (bE.m0 Ea) (ay (bE.m1 eD) (aB aU rfl nb.len aX (ac (aY bV (ar 3) aj (λ_ _=>rfl)) ad)) (aB bi rfl nb.len aX (ac (aY bd (aY bV (ar 3) aj (λ_ _=>rfl)) aj (λ_ _=>rfl)) ad))) (ay (bE.m1 eD) (aB aU rfl nb.len aX (ac (aY bV (ar 2) aj (λ_ _=>rfl)) ad)) (aB bi rfl nb.len aX (ac (aY bd (aY bV (ar 2) aj (λ_ _=>rfl)) aj (λ_ _=>rfl)) ad))) (a_ _))
   (ai (q01 2 sc.nd (ar 3)))
   bj)))
   (ai (aP (ar 2)))))),?_⟩
  symm;refine cD (λT=>?_) (λT=>h1 _ _ ?_)
  ·refine⟨_,aN.of l,by rw[KD];omega,_,aN.of l,?_⟩
   rw[KD];obtain⟨j,S⟩:∃j:Nat,c/3%(e.length:Int)=(j:Int):=⟨_,(Lu (Lr _ ⋯)).symm⟩;have k:j<e.length:=by have:=Ls (c/3) (show(0:Int)<(e.length:Int) by omega);omega
   rw[S];exact⟨_,bI (by rw[KG,Kz k];rfl),q _ (KM k)⟩
  ·grind
   refine⟨_,aN.of l,_,(show iG _ ((0:Nat):Int)=_ from bI (by rw[KG,Kz g];rfl)),h1 _ _ ?_⟩;grind;refine⟨⟨_,aN.of l⟩,?_⟩;refine bW (xs:=e.map λz=>V.ref z.a) (λi σ r=>r=H/\∃z∈e,∃x,σ=[some (V.ref lt),some (V.int c),some (V.ref z.a),x]) ⟨rfl,_,KM g,_,rfl⟩ (λi σ r _ h=>by rw[h.1];exact aN.of l) ?_ ?_
   ·rintro i x σ r D ⟨rfl,z,b,y,rfl⟩
    rw[KG]at D;obtain⟨o,u,rfl⟩:=K8.mp D;have d:=KH u;obtain⟨⟨I,G⟩,a1,b1,B⟩:=C z b;obtain⟨⟨n,m⟩,a2,b2,v⟩:=C o d;obtain⟨⟨M,w1⟩,n1⟩:=jI B;obtain⟨⟨L,w2⟩,n2⟩:=jI v;have:=B.a6;have:=B.b6;have:=v.a6;have:=v.b6;have R:iG (au z.p) 0=some (V.str (tx z.p[0])):=(show iG _ ((0:Nat):Int)=_ from bI (br M));have O:iG (au o.p) 0=some (V.str (tx o.p[0])):=(show iG _ ((0:Nat):Int)=_ from bI (br L));ext;refine⟨_,dO.of n,_,rfl,_,rfl,_,aN.of m,_,dO.of n,_,rfl,_,rfl,_,aN.of m,_,O,_,rfl,by rw[aC];exact az ⋯,.inl ⟨⋯,by rw[am];omega⟩,_,dO.of I,_,rfl,_,rfl,_,aN.of G,_,dO.of I,_,rfl,_,rfl,_,aN.of G,_,R,_,rfl,by rw[aC];exact az ⋯,.inl ⟨⋯,by rw[am];omega⟩,?_⟩;refine cD (λ_=>?_) (λ_=>?_)
    ·exact⟨o,d,rfl⟩
    ·exact⟨z,b,rfl⟩
   ·rintro σ r ⟨rfl,z,b,x,rfl⟩
    refine h1 _ _ ?_;ext;exact q z b
theorem ii.turn(h:ii p a b)(t:Nat):∃a' b',ii (turned p t) a' b':=by
 have:=h.a1;have:=h.a6;have:=h.b1;have:=h.b6
 exact⟨_,_,cO h.rc h.a1 h.b1 t,by split<;>omega,by split<;>omega,by split<;>omega,by split<;>omega,qN h.rc h.a1 h.b1 h.ns t⟩
theorem Bg{H:Hp}{lp:Addr}{as:LD}(h:H lp=some (.lst (au p)))(l0:0<p.length)(hl:H l=some (.lst (as.map V.ref))):lp≠l:=λe=>by
 rw[<- e,h]at hl;have e2:au p=as.map V.ref:=by injection hl with hl;injection hl
 have b:=q0R (λl=>l[0]?) e2;rw[br l0,KG]at b;cases as with
 |nil=>cases b
 |cons a as=>cases b
theorem Bv{pq:aL}(hp:ii p a b)(hq:ii q a' b')(e:pC k p q=some pq):∃r c,rect pq r c/\1<=r/\1<=c/\r<=12/\c<=12/\bQ pq:=by
 have:=hp.a1;have:=hp.a6;have:=hp.b1;have:=hp.b6;have:=hq.a6;have:=hq.b6
 unfold pC at e;rw[hp.rc.1,hq.rc.1,bf hp.rc hp.a1,bf hq.rc hq.a1]at e
 split at e
 ·rename_i h
  cases e;obtain⟨_,rfl⟩:=h;refine⟨_,_,u6 hp.rc hq.rc,⋯,⋯,⋯,⋯,λrow hrow h47=>?_⟩;obtain⟨⟨x,y⟩,hxy,rfl⟩:=Lm.mp (show row∈(p.zip q).map λx=>x.1++x.2 from hrow);obtain⟨hx,hy⟩:=List.of_mem_zip hxy;exact(KR.mp h47).elim (hp.ns x hx) (hq.ns y hy)
 ·split at e
  ·rename_i h
   cases e;obtain⟨_,rfl⟩:=h;exact⟨_,_,vT hp.rc hq.rc,⋯,⋯,⋯,⋯,λrow hrow=>(KR.mp (show row∈p++q from hrow)).elim (hp.ns row) (hq.ns row)⟩
  ·cases e
theorem qL{zs:List t9}(h:0<zs.length)(z:Int):∃y,y∈zs/\iG (zs.map λz=>V.ref z.a) (z%((zs.map λz=>V.ref z.a).length:Int))=some (V.ref y.a):=by
 rw[KD];obtain⟨j,b⟩:∃j:Nat,z%(zs.length:Int)=(j:Int):=⟨_,(Lu (Lr _ ⋯)).symm⟩;have a:j<zs.length:=by have:=Ls z (show(0:Int)<(zs.length:Int) by omega);omega
 exact⟨zs[j],KM _,by rw[b];exact bI (by rw[KG,Kz a];rfl)⟩
theorem tj{as:LD}{z:t9}(h:z.at H)(hp:ii z.p a b)(hl:H l=some (.lst (as.map V.ref))):z.at (aE H l o):=by
 refine⟨?_,?_⟩
 ·rw[av (λe=>by rw[<- e,h.1]at hl;cases hl)];exact h.1
 ·rw[av (Bg h.2 (jI hp).1.1 hl)];exact h.2
theorem rP{H:Hp}{Q:VK}{neg:Bool}(ha:H a=some (.lst xs))(hb:H b=some (.lst []))(q:Q (.bl (xs.isEmpty != neg)) H):DL K neg (.ref a) (.ref b) H Q:=by
 cases xs with
 |nil=>
  refine .inl ⟨[],by unfold Dt.deps;omega,.inl ⟨?_,?_⟩,by simpa using q⟩
  ·unfold kK;exact⟨a,_,rfl,aN.of ha,by unfold fQ;rfl⟩
  ·unfold kK;exact⟨b,_,rfl,aN.of hb,by unfold fQ;rfl⟩
 |cons x xs=>exact .inr ⟨a,b,_,_,rfl,rfl,aN.of ha,aN.of hb,by simp,by simpa using q⟩
structure Ae(H:Hp)(p:aL)(r:LA)(lr lt:Addr)(ts:LD)(rs:Yaa)(zs:List t9):Prop where
 ne:lr≠lt
 ra:cE H lr ts rs
 ro:∀x∈rs,iQ p r x
 ta:H lt=some (.lst (zs.map λz=>V.ref z.a))
 zt:∀z∈zs,z.at H/\z.nm∈p/\∃a b,ii z.p a b
theorem Ae.up{lr lt:Addr}(g:Ae H p r lr lt ts rs zs)(s:aD H H'):Ae H' p r lr lt ts rs zs:=
 ⟨g.ne,g.ra.up s,g.ro,s _ _ g.ta,λz hz=>⟨(g.zt z hz).1.up s,(g.zt z hz).2⟩⟩
theorem Ae.row{lr lt:Addr}{vals:List V}(g:Ae H p r lr lt ts rs zs)(ha:H a=none)(hx:iQ p r x)(ev:j7 x=vals) :
  aE H a (.tup vals) lr=some (.lst (ts.map V.ref))/\Ae (aE (aE H a (.tup vals)) lr (.lst (ts.map V.ref++[V.ref a]))) p r lr lt (ts++[a]) (rs++[x]) zs:=by
 subst ev;obtain⟨j,i,k⟩:=ql g.ra (λ_ _ e=>e) ha rfl;have d:=g.up j;refine⟨i,g.ne,k,λy m=>?_,?_,λz l=>?_⟩
 ·rcases KR.mp m with h | h
  ·exact g.ro y h
  ·rw[KF.mp h];exact hx
 ·rw[av (Ne.symm g.ne)];exact d.ta
 ·obtain⟨h1,h2,a,b,c⟩:=d.zt z l
  exact⟨tj h1 c i,h2,a,b,c⟩
theorem Ae.tree{lr lt:Addr}{z:t9}(g:Ae H p r lr lt ts rs zs)(hz:z.at H)(hn:z.nm∈p)(hp:ii z.p a b) :
  Ae (aE H lt (.lst ((zs.map λz=>V.ref z.a)++[V.ref z.a]))) p r lr lt ts rs (zs++[z]):=by
 have ta:H lt=some (.lst ((zs.map t9.a).map V.ref)):=by rw[g.ta,KS];rfl
 refine⟨g.ne,?_,g.ro,by rw[af,KQ];rfl,λy d=>?_⟩
 ·refine⟨by rw[av g.ne];exact g.ra.1,g.ra.2.1,λi t x k j=>?_⟩
  have h:=g.ra.2.2 i t x k j;rw[av (λe=>by rw[e,ta]at h;cases h)];exact h
 ·rcases KR.mp d with h | h
  ·obtain⟨h1,h2,a,b,c⟩:=g.zt y h
   exact⟨tj h1 c ta,h2,a,b,c⟩
  ·rw[KF.mp h];exact⟨tj hz hp ta,hn,a,b,hp⟩
inductive G'(H:Hp)(lc ln ls lr lt:Addr)(mo:Int)(p:aL)(r:LA)(i:Nat)(H':Hp):St->Prop
 |mk (ts:LD) (rs:Yaa) (zs:List t9) (x6 x7 x8 x9 x10 x11 x12 x13:Option V) (_:aD H H') (_:Ae H' p r lr lt ts rs zs) (_:rs.length=i) (_:zs.length=i):G' H lc ln ls lr lt mo p r i H' [some (V.ref lc),some (V.ref ln),some (V.ref ls),some (V.int mo),some (V.ref lr),some (V.ref lt),x6,x7,x8,x9,x10,x11,x12,x13]
theorem CB{t1 t2 u2:TS}{D:fF}{N:St->Hp->Prop}{G:Prop}(h1:∀σ H,p6 c1 t1 (p6 c2 t2 u2) D σ H->N σ H)(A B C:(St->Hp->Prop)->Prop)(hA:A (t1 D))(hB:B (t2 D))(hC:C (u2 D))(k:∀t1 t2 u2:TS,A (t1 D)->B (t2 D)->C (u2 D)->(∀σ H,p6 c1 t1 (p6 c2 t2 u2) D σ H->N σ H)->G):G:=k t1 t2 u2 hA hB hC h1
abbrev lu:Stmt:=fS 63
inductive nq(K:W.Frag)(vs:List V)(H:Hp)(Q:VK)(_E:XK):Prop
 |mk (lc ln ls:Addr) (mo:Int) (cs:List Int) (p:aL) (r:LA) (_:vs=[.ref lc,.ref ln,.ref ls,.int mo]) (_:H lc=some (.lst (cs.map V.int))) (_:H ln=some (.lst (au p))) (_:H ls=some (.lst (au (ce r)))) (_:p≠[]) (_:r≠[]) (_:cs.length<=100) (_:p.length<=8) (_:r.length<=8) (_:(∀n∈p,di n=true)) (_:(∀c∈r,iB [c]=true)) (_:∀tp lr lt ts rs zs H',H' tp=some (.tup [.ref lr,.ref lt])->Ae H' p r lr lt ts rs zs->rs.length=cs.length->zs.length=cs.length->aD H H'->Q (.ref tp) H')
theorem wM:aI ["_law_cells","_law_names_here","_law_signs_here","_law_most","_law_rules","_law_trees","_law_cell_here","_law_kind","_law_name","_law_cost","_law_one","_law_picture","_law_other","_law_sign"] ["_law_cells","_law_names_here","_law_signs_here","_law_most"] (ax lu):=by walk_at "c"
theorem vG{f:Addr}(F:dw K "_law_grown" "_law_grown" lu f fd)(nb:NB mg)(zxc:↑dP 1 "_law_put" ["_law_kind","_law_one","_law_other"] (uv K))(zia:↑dP 1 "_law_turned" ["_law_picture","_law_t"] (fV K)):↑bC 2 f fd ["_law_cells","_law_names_here","_law_signs_here","_law_most"] (nq K):=by
 have sc:=wM;walk_at "f"
 ·obtain⟨lc,ln,ls,mo,cs,p,r,rfl,d2,e3,e0,p0,r0,c100,p8,r8,c1,c6,q⟩:=h
  have hu:=hr.units;refine⟨_,(ae (q01 4 sc.nd (bw ad))
   (ae (q01 5 sc.nd (bw ad))
   (ae (aS PassesOwn.never rfl (bG (ar 0)) (q02 6 sc.nd)
   (ae (q01 7 sc.nd (ay (bE.m1 aZ) (ar 6) aj))
   (ae (q01 8 sc.nd (aY bd (ar 1) (ay (bE.m1 aZ) (ay (bE.m1 bc) (ar 6) aj) (aB aU rfl nb.len aX (ac (ar 1) ad))) (λ_ _=>rfl)))
   (ae (q01 9 sc.nd (ay (bE.m0 bK) aj (ay (bE.m1 aZ) (ay (bE.m1 bc) (ar 6) aj) aj)))
   (ae (q01 10 sc.nd kM)
   (ae (q01 11 sc.nd kM)
   (ae (bX (PW.pt (gw (aQ (bE.m0 mj) (ar 7) aj (a_ _)) (fu (aQ (rY hu) (ar 5) (bw ad) (a_ _)))))
   (ae (q01 10 sc.nd (aY bd (ar 5) (ay (bE.m1 aZ) (ay (bE.m1 bc) (ar 6) aj) (aB aU rfl nb.len aX (ac (ar 5) ad))) (λ_ _=>rfl)))
   (ae (q01 12 sc.nd (aY bd (ar 5) (ay (bE.m1 aZ) (ay (bE.m1 bc) (ar 6) aj) (aB aU rfl nb.len aX (ac (ar 5) ad))) (λ_ _=>rfl)))
   (ai (q01 11 sc.nd (q00 zxc hr (ac (ar 7) (ac (aY bV (ar 10) aj (λ_ _=>rfl)) (ac (aY bV (ar 12) aj (λ_ _=>rfl)) ad))))))))
   bj)
   (ai (bX (PW.pt (gw (aQ dz (ar 7) aj (a_ _)) (fu (aQ (rY hu) (ar 5) (bw ad) (a_ _)))))
   (ae (bg (q03 (ar 4) (ac (bO (cy (ac (ar 8) (ac (ar 9) (ac (aY bV (ar 10) aj (λ_ _=>rfl)) (ac (ay (bE.m1 aZ) (ay (bE.m1 bc) (ar 6) aj) aj) ad)))))) ad)))
   (ai (bg (q03 (ar 5) (ac (bO (ac (bO (ac (ay (bE.m0 iX) (aB aU rfl nb.len aX (ac (ar 4) ad)) aj) (ac (aY bV (ar 10) aj (λ_ _=>rfl)) ad))) (ac (ar 8) (ac (q00 zia hr (ac (aY bV (ar 10) aj (λ_ _=>rfl)) (ac (ay (bE.m1 aZ) (ay (bE.m1 bc) (ar 6) aj) aj) ad))) (ac (ay (bE.m0 bK) (ar 9) (aY bV (ar 10) aj (λ_ _=>rfl))) ad))))) ad)))))
   (ai (bX (PW.pt (gw (aQ xL (ar 11) kM (a_ _)) (gw (aQ (bE.m0 rp) (ay (bE.m1 eD) (aB aU rfl nb.len aX (ac (ar 11) ad)) (aB bi rfl nb.len aX (ac (aY bd (ar 11) aj (λ_ _=>rfl)) ad))) (ar 3) (a_ _)) (fu (aQ (bE.m0 qQ) (aB (Ac rfl) rfl nb.max EI (ac (aB aU rfl nb.len aX (ac (ar 11) ad)) (ac (aB bi rfl nb.len aX (ac (aY bd (ar 11) aj (λ_ _=>rfl)) ad)) ad))) aj (a_ _))))))
   (ae (bg (q03 (ar 4) (ac (bO (ac (ar 7) (ac (ar 8) (ac (ar 9) (ac (aY bV (ar 10) aj (λ_ _=>rfl)) (ac (aY bV (ar 12) aj (λ_ _=>rfl)) ad)))))) ad)))
   (ai (bg (q03 (ar 5) (ac (bO (ac (bO (ac (ay (bE.m0 iX) (aB aU rfl nb.len aX (ac (ar 4) ad)) aj) (ac (aY bV (ar 10) aj (λ_ _=>rfl)) (ac (aY bV (ar 12) aj (λ_ _=>rfl)) ad)))) (ac (ar 8) (ac (ar 11) (ac (ay (bE.m0 bK) (ay (bE.m0 bK) (ar 9) (aY bV (ar 10) aj (λ_ _=>rfl))) (aY bV (ar 12) aj (λ_ _=>rfl))) ad))))) ad)))))
   (ae (q01 13 sc.nd (aY bd (ar 2) (ay (bE.m1 aZ) (ay (bE.m1 bc) (ar 6) aj) (aB aU rfl nb.len aX (ac (ar 2) ad))) (λ_ _=>rfl)))
   (ae (bg (q03 (ar 4) (ac (bO (cy (ac (ar 8) (ac (ar 9) (ac (ar 13) (fO ad)))))) ad)))
   (ai (bg (q03 (ar 5) (ac (bO (ac (bO (ac (ay (bE.m0 iX) (aB aU rfl nb.len aX (ac (ar 4) ad)) aj) ad)) (ac (ar 8) (ac (bw (ac (ar 13) ad)) (ac (ar 9) ad))))) ad)))))))))))))))))
   (ai (aP (bO (ac (ar 4) (ac (ar 5) ad)))))))),?_⟩
  symm;refine⟨K5 _,λD a8=>h1 _ _ ?_⟩;clear h1;generalize z0:aE H D _=H1;obtain⟨s1,e1⟩:=dN a8 z0;symm;refine⟨K5 _,λlt a7=>h1 _ _ ?_⟩;clear h1;generalize d:aE H1 lt _=H2;obtain⟨s2,e2⟩:=dN a7 d;have c9:H lt=none:=s1.free a7;have d6:D≠lt:=λe=>by rw[<- e,e1]at a7;cases a7
  have d5:0<(au p).length:=by rw[am];exact List.length_pos_iff.mpr p0
  have d4:0<(au (ce r)).length:=by rw[am];unfold ce;rw[KD];exact List.length_pos_iff.mpr r0
  symm;refine⟨⟨_,aN.of (s2 _ _ (s1 _ _ d2))⟩,?_⟩;refine bW (xs:=cs.map V.int) (λi σ H'=>G' H lc ln ls D lt mo p r i H' σ) (.mk [] [] [] _ _ _ _ _ _ _ _ (s1.trans s2) ⟨d6,⟨s2 _ _ e1,rfl,λi t r e=>by simp at e⟩,(λx hx=>nomatch hx),e2,(λx hx=>nomatch hx)⟩ rfl rfl) (λi σ H' _ h=>by cases h with | mk _ _ _ _ _ _ _ _ _ _ _ s=>exact aN.of (s _ _ d2)) ?_ ?_
  ·rintro i x σ H' hx ⟨ts,rs,O,x6,x7,x8,x9,Y,U,B,j,sm,g,J,a4⟩
   rw[KG]at hx;obtain⟨c,hc,rfl⟩:=K8.mp hx;have hi:=(KA.mp hc).1;have b3:=sm _ _ e3;have b0:=sm _ _ e0;obtain⟨nm,S,en⟩:=iJ p0 (c/4);obtain⟨sg,c0,eg⟩:=vC r0 (c/144);have c2:1<=1+c/16%9/\1+c/16%9<=9:=by omega
   symm;refine h1 _ _ ?_;grind;refine⟨_,aN.of b3,Int.ofNat_lt.mpr d5,_,aN.of b3,_,en,h1 _ _ ?_⟩;grind;refine h1 _ _ ?_;clear h1;generalize hcst:1+c/16%9=cs1 at c2 ⊢;symm;refine h1 _ _ ?_;grind;refine h1 _ _ ?_;clear h1;refine aq λN1 h1=>?_;have mk:∀(k:Nat) (o1 o2:LA) (t:Int),k<4->o1∈p->o2∈p->0<=t->t<=7->iQ p r (k,⟨nm,cs1,o1,o2,[sg],t⟩):=λk o1 o2 t hk h1 h2 t0 t7=>by
    have gd:(⟨nm,cs1,o1,o2,[sg],t⟩:RV).good:=⟨c1 nm S,c2.1,c2.2,c1 o1 h1,c1 o2 h2,c6 sg c0,t0,t7⟩;exact⟨⟨hk,gd,gd.small⟩,S,h1,h2,⟨sg,c0,rfl⟩⟩
   have hrl2:=g.ra.2.1;have fin:∀{H5 H8:Hp} {ts':LD} {rs':Yaa} {x6 x7 x8 x9 Y U B j:Option V} (z:t9) {a b:Nat},Ae H5 p r D lt ts' rs' O->rs'.length=i+1->aD H H5->aD H5 H8->z.at H8->z.nm∈p->ii z.p a b->∃x2,H8 lt=some (.lst x2)/\x2.length<sizeLine/\G' H lc ln ls D lt mo p r (i+1) (aE H8 lt (.lst (x2++[V.ref z.a]))) [some (V.ref lc),some (V.ref ln),some (V.ref ls),some (V.int mo),some (V.ref D),some (V.ref lt),x6,x7,x8,x9,Y,U,B,j]:=λz a b g5 e5 s5 s8 hz hn hp=>
    ⟨_,(g5.up s8).ta,by rw[KD];exact aR ⋯,.mk _ _ _ _ _ _ _ _ _ _ _ (bz (s5.trans s8) c9) ((g5.up s8).tree hz hn hp) e5 (by rw[K3,a4];rfl)⟩
   refine CB h1 (λt=>∀{H4:Hp} {d:t9} {v B j:Option V},aD H' H4->d∈O->t [some (V.ref lc),some (V.ref ln),some (V.ref ls),some (V.int mo),some (V.ref D),some (V.ref lt),some (V.int c),some (V.int (c%4)),some (V.str (tx nm)),some (V.int cs1),some (V.ref d.a),v,B,j] H4)
    (λt=>∀{y:Hp} {d C:t9} {lq:Addr} {R:aL} {a b k:Nat} {j:Option V},aD H' y->(k=1\/k=2)->c%4=(k:Int)->d∈O->C∈O->y lq=some (.lst (au R))->ii R a b->t [some (V.ref lc),some (V.ref ln),some (V.ref ls),some (V.int mo),some (V.ref D),some (V.ref lt),some (V.int c),some (V.int (c%4)),some (V.str (tx nm)),some (V.int cs1),some (V.ref d.a),some (V.ref lq),some (V.ref C.a),j] y)
    (λt=>∀{y:Hp} {Y U B j:Option V},aD H' y->t [some (V.ref lc),some (V.ref ln),some (V.ref ls),some (V.int mo),some (V.ref D),some (V.ref lt),some (V.int c),some (V.int (c%4)),some (V.str (tx nm)),some (V.int cs1),Y,U,B,j] y) ?_ ?_ ?_ ?_
   ·intro H4 d v B j s4 m
    have g4:=g.up s4;obtain⟨⟨n,a9⟩,a5,a1,b1,P1⟩:=g4.zt d m;ac_nf;refine⟨.inl ⟨rfl,_,aN.of g4.ra.1⟩,_,dO.of n,_,rfl,az (by decide),λZ h1=>?_⟩;obtain⟨eA,L⟩:=g4.row (vals:=[V.int 3,V.str (tx nm),V.int cs1,V.str (tx d.nm),V.int (c/1296%8)]) h1 (mk 3 d.nm d.nm (c/1296%8) (by decide) a5 a5 ⋯ ⋯) rfl;refine⟨_,eA,by rw[KD];exact aR ⋯,h2 _ _ ?_⟩;clear h2;have sA:aD H (aE (aE H4 Z (.tup [V.int 3,V.str (tx nm),V.int cs1,V.str (tx d.nm),V.int (c/1296%8)])) D (.lst (ts.map V.ref++[V.ref Z]))):=bz ((sm.trans s4).trans (ao h1)) a8;generalize aE (aE H4 Z _) D _=H5 at L sA ⊢;obtain⟨⟨n,a9⟩,_⟩:=L.zt d m;ext;refine⟨.inl ⟨rfl,_,aN.of L.ta⟩,_,aN.of L.ra.1,_,dO.of n,_,rfl,az (by decide),λp2 h2=>?_⟩;generalize C:aE H5 p2 _=H6;obtain⟨s6,_⟩:=dN h2 C;obtain⟨t8,e7⟩:∃t8:Nat,c/1296%8=(t8:Int):=⟨(c/1296%8).toNat,⋯⟩;refine⟨_,dO.of (s6 _ _ n),_,rfl,d.lp,d.p,a1,b1,t8,by rw[e7],s6 _ _ a9,P1.rc,P1.a1,P1.b1,by have:=P1.a6;omega,by have:=P1.b6;omega,⋯,λlq H7 hlq h7 s7=>?_⟩;obtain⟨a2,b2,P2⟩:=P1.turn t8;exact⟨_,dO.of (s7 _ _ (s6 _ _ n)),_,rfl,_,rfl,az (by decide),λp5 h5=>fin ⟨p5,lq,V.ref p2,nm,turned d.p t8,cs1+d.c⟩ L (by rw[K3,J];rfl) sA ((s6.trans s7).trans (ao h5)) ⟨af,ao h5 _ _ h7⟩ S P2⟩
   ·intro y d C lq R a b k j u hk ek m I hq PQ
    have T:=g.up u;obtain⟨l0,w0⟩:=dA PQ.rc (show 0<a from PQ.a1);obtain⟨⟨n,_⟩,a5,_⟩:=T.zt d m;obtain⟨⟨a3,_⟩,d7,_⟩:=T.zt C I;ac_nf;refine⟨.inl ⟨rfl,_,aN.of T.ra.1⟩,_,dO.of n,_,rfl,_,dO.of a3,_,rfl,az (by decide),λZ h1=>?_⟩;obtain⟨eA,L⟩:=T.row (vals:=[V.int (c%4),V.str (tx nm),V.int cs1,V.str (tx d.nm),V.str (tx C.nm)]) h1 (mk k d.nm C.nm 0 ⋯ a5 d7 (by decide) (by decide)) (by rw[ek];rcases hk with rfl | rfl<;>rfl);refine⟨_,eA,by rw[KD];exact aR ⋯,h2 _ _ ?_⟩;clear h2;have sA:aD H (aE (aE y Z (.tup [V.int (c%4),V.str (tx nm),V.int cs1,V.str (tx d.nm),V.str (tx C.nm)])) D (.lst (ts.map V.ref++[V.ref Z]))):=bz ((sm.trans u).trans (ao h1)) a8;have c7:aE (aE y Z (.tup [V.int (c%4),V.str (tx nm),V.int cs1,V.str (tx d.nm),V.str (tx C.nm)])) D (.lst (ts.map V.ref++[V.ref Z])) lq=some (.lst (au R)):=by
     rw[av (Bg (ao h1 _ _ hq) l0 eA)];exact ao h1 _ _ hq
    generalize aE (aE y Z _) D _=H5 at L sA c7 ⊢;obtain⟨⟨n,_⟩,_⟩:=L.zt d m;obtain⟨⟨a3,_⟩,_⟩:=L.zt C I;ext;refine⟨.inl ⟨rfl,_,aN.of L.ta⟩,_,aN.of L.ra.1,_,dO.of n,_,rfl,_,dO.of a3,_,rfl,az (by decide),λp2 h2=>?_⟩;generalize y2:aE H5 p2 _=H6;obtain⟨s6,_⟩:=dN h2 y2;exact⟨_,dO.of (s6 _ _ n),_,rfl,_,rfl,_,dO.of (s6 _ _ a3),_,rfl,_,rfl,az (by decide),λp5 h5=>fin ⟨p5,lq,V.ref p2,nm,R,cs1+d.c+C.c⟩ L (by rw[K3,J];rfl) sA (s6.trans (ao h5)) ⟨af,ao h5 _ _ (s6 _ _ c7)⟩ S PQ⟩
   ·intro y Y U B j u
    have T:=g.up u;ac_nf;refine⟨_,aN.of (u _ _ b0),Int.ofNat_lt.mpr d4,_,aN.of (u _ _ b0),_,eg,h2 _ _ ?_⟩;walk_at "oc";refine⟨.inl ⟨rfl,_,aN.of T.ra.1⟩,az (by decide),λZ h1=>?_⟩;obtain⟨eA,L⟩:=T.row (vals:=[V.int 0,V.str (tx nm),V.int cs1,V.str (tx [sg]),V.str (Str.ofString "")]) h1 (mk 0 nm nm 0 (by decide) S S (by decide) (by decide)) rfl;refine⟨_,eA,by rw[KD];exact aR ⋯,h2 _ _ ?_⟩;clear h2;have sA:aD H (aE (aE y Z (.tup [V.int 0,V.str (tx nm),V.int cs1,V.str (tx [sg]),V.str (Str.ofString "")])) D (.lst (ts.map V.ref++[V.ref Z]))):=bz ((sm.trans u).trans (ao h1)) a8;generalize aE (aE y Z _) D _=H5 at L sA ⊢;ext;refine⟨.inl ⟨rfl,_,aN.of L.ta⟩,_,aN.of L.ra.1,az (by decide),λp2 h2=>⟨az (by decide),λp3 h3=>⟨az (by decide),λp4 h4=>?_⟩⟩⟩;have s8:=((ao h2).trans (ao (o:=.lst [V.str (tx [sg])]) h3)).trans (ao (o:=.tup [V.ref p2,V.str (tx nm),V.ref p3,V.int cs1]) h4);have d3:sg≠47:=λe=>q0Q (c6 sg c0) (by rw[e];decide +kernel);have pc:ii [[sg]] 1 1:=⟨⟨rfl,λx hx=>by rw[KF.mp hx];rfl⟩,by decide,by decide,by decide,by decide,λx hx h=>by rw[KF.mp hx]at h;exact d3 (KF.mp h).symm⟩;exact fin ⟨p4,p3,V.ref p2,nm,[[sg]],cs1⟩ L (by rw[K3,J];rfl) sA s8 ⟨af,ao h4 _ _ af⟩ S pc
   ·intro t1 t2 u2 bA bB M h1
    ext;have b4:∀{y:Hp},aD H' y->(c%4=0\/O=[])->N1 [some (V.ref lc),some (V.ref ln),some (V.ref ls),some (V.int mo),some (V.ref D),some (V.ref lt),some (V.int c),some (V.int (c%4)),some (V.str (tx nm)),some (V.int cs1),some V.non,some V.non,B,j] y:=by
     intro y u hz;refine h1 _ _ ?_;clear h1;ext;refine cD (λh3=>⟨K5 _,λle G=>rP ((ao G) _ _ (g.up u).ta) af ⟨_,rfl,?_⟩⟩) (λh3=>?_)
     ·rw[q06 (by rw[hz.resolve_left ⋯];simp)]
      exact M (u.trans (ao G))
     ·exact M u
    have c3:∀{y:Hp} {d C:t9} {v:V} {k:Nat},aD H' y->c%4=(k:Int)->k≠0->d∈O->C∈O->(v=.non\/∃lq R a b,v=.ref lq/\y lq=some (.lst (au R))/\rect R a b/\1<=a/\1<=b/\a<=12/\b<=12/\bQ R)->N1 [some (V.ref lc),some (V.ref ln),some (V.ref ls),some (V.int mo),some (V.ref D),some (V.ref lt),some (V.int c),some (V.int (c%4)),some (V.str (tx nm)),some (V.int cs1),some (V.ref d.a),some v,some (V.ref C.a),j] y:=by
     intro y d C v k u ek hk0 m I hv;refine h1 _ _ ?_;clear h1 b4;have a0:O≠[]:=λe=>by rw[e]at m;exact nomatch m
     ext;refine cD (λh3=>⟨K5 _,λle G=>rP ((ao G) _ _ (g.up u).ta) af ⟨_,rfl,?_⟩⟩) (λh3=>?_)
     ·rw[q07 (by cases O with | nil=>exact q0Q rfl a0 | cons _ _=>rfl)]
      exact bA (u.trans (ao G)) m
     ·rcases hv with rfl | ⟨lq,R,a,b,rfl,hq,rc,a1,b1,HQ,b12,ns⟩
      ·rw[q06 (by simp)]
       exact M u
      rw[q07 (by nofun)];obtain⟨l0,w0⟩:=dA rc (show 0<a from a1);have i0:iG (au R) 0=some (V.str (tx R[0])):=(show iG _ ((0:Nat):Int)=_ from bI (br l0));have zl:(tx R[0]).length<=sizeLine:=by rw[aC];exact az ⋯
      refine⟨_,rfl,_,aN.of hq,_,rfl,_,aN.of hq,_,i0,_,rfl,zl,.inl ⟨⋯,by rw[am,rc.1];omega⟩,?_⟩;rw[am,rc.1,aC,w0];refine cD (λh9=>⟨_,rfl,_,aN.of hq,_,rfl,_,aN.of hq,_,i0,_,rfl,zl,?_⟩) (λ_=>M u);rw[am,rc.1,aC,w0];refine cD (λh7=>?_) (λ_=>M u);have ab:a<7/\b<7:=by split at h7<;>omega
      exact bB u ⋯ ek m I hq ⟨rc,a1,⋯,b1,⋯,ns⟩
    refine cD (λk0=>⟨K5 _,λle G=>rP ((ao G) _ _ g.ta) af ⟨_,rfl,?_⟩⟩) (λk0=>b4 (aD.refl _) (.inl ⋯))
    by_cases a0:O=[]
    ·rw[q06 (by rw[a0];simp)]
     exact b4 (ao G) (.inr a0)
    rw[q07 (by cases O with | nil=>exact q0Q rfl a0 | cons _ _=>rfl)];have u:=ao (o:=.lst []) G;generalize aE H' le _=y at u ⊢;have T:=g.up u;have c4:0<O.length:=List.length_pos_iff.mpr a0;obtain⟨d,m,e6⟩:=qL c4 (c/144);obtain⟨C,I,e4⟩:=qL c4 (c/1296);obtain⟨⟨n,a9⟩,_,a1,b1,P1⟩:=T.zt d m;obtain⟨⟨a3,e9⟩,_,a2,b2,P2⟩:=T.zt C I;obtain⟨k,hk,ek⟩:∃k:Nat,k<4/\c%4=(k:Int):=⟨(c%4).toNat,⋯,⋯⟩;have d1:(0:Int)<((O.map λz=>V.ref z.a).length:Int):=by rw[KD];omega
    refine⟨_,aN.of T.ta,d1,_,aN.of T.ta,_,e6,_,aN.of T.ta,d1,_,aN.of T.ta,_,e4,_,rfl,_,dO.of n,_,rfl,_,rfl,_,dO.of a3,_,rfl,d.lp,C.lp,d.p,C.p,k,a1,b1,a2,b2,by rw[ek],a9,e9,P1.rc,P2.rc,P1.a1,P1.a6,P1.b1,P1.b6,P2.a1,P2.a6,P2.b1,P2.b6,hk,λ_ H4 s4=>c3 (u.trans s4) ek ⋯ m I (.inl rfl),λR e8 l H4 _ h4 s4=>c3 (u.trans s4) ek ⋯ m I (.inr ?_)⟩;obtain⟨a,b,rc,u1,u2,u3,u4,u5⟩:=Bv P1 P2 e8;exact⟨l,R,a,b,rfl,h4,rc,u1,u2,u3,u4,u5⟩
  ·rintro σ H' ⟨ts,rs,O,x6,x7,x8,x9,Y,U,B,j,sm,g,J,a4⟩
   refine h1 _ _ ?_;ext;exact⟨az (by decide),λtp c5=>q tp D lt ts rs O _ af (g.up (ao c5)) (by rw[J,KD]) (by rw[a4,KD]) (sm.trans (ao c5))⟩
theorem Ax{g:TG}{tb:TS}{D:fF}{σ:St}{H:Hp}{xs ys:List V}{n:Nat}(hn:n=min xs.length ys.length)(Pv:Nat->St->Hp->Prop)(h0:Pv 0 σ H)(hl:∀i σ H,i<=n->Pv i σ H->aN K H a xs/\aN K H b ys)
  (hs:∀(i:Nat) x y σ H T,xs[i]?=some x->ys[i]?=some y->Pv i σ H->H T=none->g (.ref T) σ (aE H T (.tup [x,y])) λσ2 H2=>tb {D with nx:=Pv (i+1),ct:=Pv (i+1),bk:=D.nx} σ2 H2) (hd:∀σ H,Pv n σ H->D.nx σ H):rK (Gk K a b) g tb D σ H:=by
 refine⟨λi m σ H=>m=n-i/\i<=n/\Pv i σ H,⟨n,by simp,K5 _,h0⟩,?_⟩;rintro i m σ H ⟨rfl,q,p⟩;obtain⟨d,c⟩:=hl i σ H q p
 by_cases j:i<n
 ·refine .inr ⟨⟨xs,ys,xs[i]'⋯,ys[i]'⋯,d,c,Kz ⋯,Kz ⋯⟩,Pv (i+1),λσ' u p'=>⟨n-(i+1),⋯,rfl,j,p'⟩,λx u y=>?_⟩
  obtain⟨T,x,o,rfl,r,rfl,l,k⟩:=y;exact hs i x o σ _ T (l xs d) (k ys c) p r
 ·have e:i=n:=by omega
  subst e;exact .inl ⟨⟨xs,ys,d,c,⋯⟩,hd σ H p⟩
theorem cE.insert{t:Addr}(h:cE H l ts rs)(ht:H t=some (.tup (j7 x)))(k:Nat)(hk:k<=rs.length):cE (aE H l (.lst ((ts.map V.ref).take k++V.ref t::(ts.map V.ref).drop k))) l (ts.take k++t::ts.drop k) (rs.take k++x::rs.drop k):=by
 obtain⟨h1,h2,d⟩:=h;have put:∀{b:Addr} {y:Nat×RV},H b=some (.tup (j7 y))->aE H l (.lst ((ts.map V.ref).take k++V.ref t::(ts.map V.ref).drop k)) b=some (.tup (j7 y)):=fun{b y} h=>by
  rw[av (λe=>by rw[e,h1]at h;cases h)];exact h
 refine⟨by rw[af,KQ,K_,List.map_take,List.map_drop],by rw[K3,K3,KP,KP,Lg,Lg,Lh,Lh,h2],λi b y c a=>put ?_⟩;rcases Nat.lt_trichotomy i k with hi | hi | hi
 ·rw[K2 (by rw[Lg];omega),List.getElem?_take_of_lt hi]at c a
  exact d i b y c a
 ·subst hi
  rw[K1 (by rw[Lg];omega),Lg,Lv ⋯,Nat.sub_self]at c a;cases c;cases a
  exact ht
 ·rw[K1 (by rw[Lg];omega),Lg,Lv ⋯]at c a
  obtain⟨j,rfl⟩:∃j,i=k+1+j:=⟨i-(k+1),⋯⟩;rw[show k+1+j-k=j+1 by omega,K9,List.getElem?_drop]at c a;exact d _ b y c a
theorem xz{α:Type}{x y:α}{l:List α}:x∈l.take k++y::l.drop k↔x=y\/x∈l:=by
 rw[KR,KU]
 conv=>rhs;rw[<- List.take_append_drop k l,KR]
 constructor
 ·rintro(h | h | h)
  ·exact .inr (.inl h)
  ·exact .inl h
  ·exact .inr (.inr h)
 ·rintro(h | h | h)
  ·exact .inr (.inl h)
  ·exact .inl h
  ·exact .inr (.inr h)
structure Gr(H:Hp)(l:Addr)(ts:LD)(rs rs1:Yaa)(rs2:Yaa)(n:Nat):Prop where
 ra:cE H l ts rs
 sub:∀x∈rs,x∈rs1\/x∈rs2
 sup:∀x∈rs1,x∈rs
 len:rs.length<=n
abbrev oJ:Stmt:=fS 65
inductive rj(vs:List V)(H:Hp)(Q:VK)(_E:XK):Prop
 |mk (l1 l2 lc:Addr) (ts ts2:LD) (rs rs2:Yaa) (cs:List Int) (_:vs=[.ref l1,.ref l2,.ref lc]) (_:cE H l1 ts rs) (_:cE H l2 ts2 rs2) (_:H lc=some (.lst (cs.map V.int))) (_:rs.length<=100) (_:rs2.length<=100) (_:∀l ts' rs' H',H l=none->Gr H' l ts' rs' rs rs2 (rs.length+rs2.length)->aD H H'->Q (.ref l) H')
theorem yF:aI ["_law_rules","_law_more","_law_cells","_law_found","_law_rule","_law_cell_here"] ["_law_rules","_law_more","_law_cells"] (ax oJ):=by walk_at "c"
theorem zV{f:Addr}(F:dw K "_law_amid" "_law_amid" oJ f fd)(nb:NB mg):↑bC 1 f fd ["_law_rules","_law_more","_law_cells"] rj:=by
 have sc:=yF;walk_at "f"
 ·obtain⟨l1,l2,lc,R,p,B,j,Y,rfl,o,d,z,n1,n2,q⟩:=h
  have hu:=hr.units;refine⟨_,(ae (q01 3 sc.nd (cV cN rfl nb.list eF (ac (ar 0) ad)))
   (ae (aS PassesOwn.never rfl (Ba rfl nb.zip (ac (ar 1) (ac (ar 2) ad))) (ip (n:=2) rfl (bh (q02 4 sc.nd) (bh (q02 5 sc.nd) dD)))
   (ai (bg (cJ PySem.F.plainAttrs_list PySem.F.slot_list_insert PySem.F.type_list_insert zT (ar 3) (ac (ay (bE.m1 aZ) (ay (bE.m1 bc) (ar 5) aj) (ay (bE.m0 bK) (aB aU rfl nb.len aX (ac (ar 3) ad)) aj)) (ac (ar 4) ad))))))
   (ai (aP (ar 3))))),?_⟩
  symm;refine⟨_,.inl (aN.of o.1),λu m=>h1 _ _ ?_⟩;clear h1;generalize C:aE H u _=H1;obtain⟨r,O⟩:=dN m C;have M:cE H1 u R B:=⟨O,o.2.1,λi t x O e2=>r _ _ (o.2.2 i t x O e2)⟩;symm;refine⟨_,aN.of (r _ _ d.1),_,aN.of (r _ _ z),?_⟩;have hR21:=d.up r;refine Ax (xs:=p.map V.ref) (ys:=Y.map V.int) (n:=min (p.map V.ref).length (Y.map V.int).length) rfl (λi σ H'=>aD H H'/\i<=j.length/\(∃a b,Gr H' u a b B j (B.length+i))/\∃x y,σ=[some (V.ref l1),some (V.ref l2),some (V.ref lc),some (V.ref u),x,y]) ⟨r,K5 _,⟨R,B,M,λx e=>.inl e,λx e=>e,K4 _⟩,_,_,rfl⟩ (λi σ H' _ h=>⟨aN.of (h.1 _ _ d.1),aN.of (h.1 _ _ z)⟩) ?_ ?_
  ·rintro i x y σ H2 T e S ⟨sm,_,⟨a,b,g⟩,x4,Z,rfl⟩ hT
   rw[KG]at e S;obtain⟨t,U,rfl⟩:=K8.mp e;obtain⟨c,hc,rfl⟩:=K8.mp S;have L:i<j.length:=by rw[<- d.2.1];exact(KA.mp U).1
   obtain⟨D,v⟩:∃D,j[i]?=some D:=⟨_,Kz L⟩;generalize C:aE H2 T _=H3;obtain⟨G,e3⟩:=dN hT C;have l:=g.ra.up G;have I:=(sm.trans G) _ _ (d.2.2 i t D U v);have hl3:=g.ra.2.1;have hll:=g.len;ext;obtain⟨k,hk⟩:∃k:Nat,c/4608%((a.length:Int)+1)=(k:Int):=⟨_,(Lu (Lr _ ⋯)).symm⟩;have J:k<=b.length:=by have:=Ls (c/4608) (show(0:Int)<(a.length:Int)+1 by omega);omega
   refine⟨_,dO.of e3,rfl,_,_,rfl,_,_,rfl,rfl,.inl ⟨rfl,_,aN.of l.1⟩,_,rfl,_,aN.of l.1,⋯,_,l.1,k,by rw[KD];exact hk,by rw[KD];omega,by rw[KD];exact aR ⋯,bz (sm.trans G) m,L,_,_,l.insert I k J,λx e=>?_,λx e=>xz.mpr (.inr (g.sup x e)),by rw[K3,KP,Lg,Lh];omega⟩;rcases xz.mp e with h | h
   ·rw[h];exact .inr (KH v)
   ·exact g.sub x h
  ·rintro σ H2 ⟨sm,L,⟨a,b,g⟩,x4,Z,rfl⟩
   refine h1 _ _ ?_;ext;exact q u a b H2 m ⟨g.ra,g.sub,g.sup,K' g.len ⋯⟩ sm
def Ad(p:aL)(r c t b l x u:Nat)(y:aL):Prop:=∃t' b' l' x' u':Nat,(t'<t\/t'=t/\(b'<b\/b'=b/\(l'<l\/l'=l/\(x'<x\/x'=x/\u'<u))))/\(t'<b'/\b'<=r/\l'<x'/\x'<=c/\u'<8)/\y=turned (cut p t' l' b' x') u'
theorem Ad.cg{r c t b l x u t2 b2 l2 x2 u2:Nat}(h:∀t' b' l' x' u':Nat,t'<b'->b'<=r->l'<x'->x'<=c->u'<8->((t'<t\/t'=t/\(b'<b\/b'=b/\(l'<l\/l'=l/\(x'<x\/x'=x/\u'<u))))↔(t'<t2\/t'=t2/\(b'<b2\/b'=b2/\(l'<l2\/l'=l2/\(x'<x2\/x'=x2/\u'<u2))))))(y:aL):Ad p r c t b l x u y↔Ad p r c t2 b2 l2 x2 u2 y:=
 ⟨λ⟨t',b',l',x',u',h1,h2,h3⟩=>⟨t',b',l',x',u',(h _ _ _ _ _ h2.1 h2.2.1 h2.2.2.1 h2.2.2.2.1 h2.2.2.2.2).mp h1,h2,h3⟩,λ⟨t',b',l',x',u',h1,h2,h3⟩=>⟨t',b',l',x',u',(h _ _ _ _ _ h2.1 h2.2.1 h2.2.2.1 h2.2.2.2.1 h2.2.2.2.2).mpr h1,h2,h3⟩⟩
theorem Ad.one{p:aL}{r c t b l x u:Nat}(h1:t<b)(h2:b<=r)(h3:l<x)(h4:x<=c)(h5:u<8)(y:aL):Ad p r c t b l x u y\/y=turned (cut p t l b x) u↔Ad p r c t b l x (u+1) y:=by
 constructor
 ·rintro(⟨i,m,j,a,d,o,n,k⟩ | g)
  ·exact⟨i,m,j,a,d,⋯,n,k⟩
  ·exact⟨t,b,l,x,u,⋯,⟨h1,h2,h3,h4,h5⟩,g⟩
 ·rintro⟨i,m,j,a,d,o,n,k⟩
  by_cases e:i=t/\m=b/\j=l/\a=x/\d=u
  ·obtain⟨rfl,rfl,rfl,rfl,rfl⟩:=e
   exact .inr k
  ·exact .inl ⟨i,m,j,a,d,⋯,n,k⟩
theorem Ad.all(y:aL):Ad p r c r 0 0 0 0 y↔ba p r c y:=
 ⟨λ⟨t',b',l',x',u',_,h2,h3⟩=>⟨t',l',b',x',u',h2.1,h2.2.1,h2.2.2.1,h2.2.2.2.1,h2.2.2.2.2,h3⟩,λ⟨t',l',b',x',u',h1,h2,h3,h4,h5,h6⟩=>⟨t',b',l',x',u',⋯,⟨h1,h2,h3,h4,h5⟩,h6⟩⟩
theorem Cw{dn:aL->Prop}{m:Nat}(S:dG H H' d dn zs n)(h:n<=m):dG H H' d dn zs m:=⟨S.tbl,S.sm,S.hd,S.each,S.nda,S.ndp,S.mem,K' S.len h⟩
inductive wB(H:Hp)(a d:Addr)(p:aL)(r c t b l x u:Nat)(H':Hp):Prop
 |mk (zs:List AP) (_:dG H H' d (Ad p r c t b l x u) zs (4000*t+500*b+60*l+8*x+u)):wB H a d p r c t b l x u H'
theorem wB.cg{t t2 b2 l2 x2 u2:Nat}(S:wB H a d p r c t b l x u H')(h:∀t' b' l' x' u':Nat,t'<b'->b'<=r->l'<x'->x'<=c->u'<8->((t'<t\/t'=t/\(b'<b\/b'=b/\(l'<l\/l'=l/\(x'<x\/x'=x/\u'<u))))↔(t'<t2\/t'=t2/\(b'<b2\/b'=b2/\(l'<l2\/l'=l2/\(x'<x2\/x'=x2/\u'<u2))))))(hn:4000*t+500*b+60*l+8*x+u<=4000*t2+500*b2+60*l2+8*x2+u2):wB H a d p r c t2 b2 l2 x2 u2 H':=by
 obtain⟨e,S⟩:=S;exact⟨e,Cw (S.congr (Ad.cg h)) hn⟩
theorem wB.sm{t:Nat}(S:wB H a d p r c t b l x u H'):aD H H':=by obtain⟨zs,S⟩:=S;exact S.sm
theorem wB.up{t:Nat}{H2:Hp}(S:wB H a d p r c t b l x u H')(s:aD H' H2):wB H a d p r c t b l x u H2:=by obtain⟨e,S⟩:=S;exact⟨e,S.same s⟩
abbrev oB:Stmt:=fS 70
inductive qI(K:W.Frag)(vs:List V)(H:Hp)(Q:VK)(_E:XK):Prop
 |mk (a:Addr) (p:aL) (r c:Nat) (_:vs=[.ref a]) (_:H a=some (.lst (au p))) (_:ii p r c) (_:∀(d:Addr) (H':Hp) (zs:List AP),dG H H' d (ba p r c) zs 24000->Q (.ref d) H')
theorem zW:aI ["_law_picture","_law_found","_law_top","_law_bottom","_law_left","_law_right","_law_part","_law_t","_law_whole_here"] ["_law_picture"] (ax oB):=by walk_at "c"
theorem zE{f:Addr}(F:dw K "_law_seen" "_law_seen" oB f fd)(nb:NB mg)(zia:↑dP 1 "_law_turned" ["_law_picture","_law_t"] (fV K))(zja:↑dP 1 "_law_text" ["_law_picture"] (lg K)):↑bC 2 f fd ["_law_picture"] (qI K):=by
 have sc:=zW;walk_at "f"
 ·obtain⟨a,p,r,c,rfl,T,B,q⟩:=h
  have hu:=hr.units;refine⟨_,(ae (q01 1 sc.nd nN)
   (ae (aS PassesOwn.never rfl (bL rfl nb.range (ac (aB aU rfl nb.len aX (ac (ar 0) ad)) ad)) (q02 2 sc.nd)
   (ai (aS PassesOwn.never rfl (d_ rfl nb.range (ac (ay (bE.m0 bK) (ar 2) aj) (ac (ay (bE.m0 bK) (aB aU rfl nb.len aX (ac (ar 0) ad)) aj) ad))) (q02 3 sc.nd)
   (ai (aS PassesOwn.never rfl (bL rfl nb.range (ac (aB bi rfl nb.len aX (ac (aY bd (ar 0) aj (λ_ _=>rfl)) ad)) ad)) (aw (i:=4) sc.nd rfl (Or.inr rfl))
   (ai (aS PassesOwn.never rfl (d_ rfl nb.range (ac (ay (bE.m0 bK) (ar 4) aj) (ac (ay (bE.m0 bK) (aB bi rfl nb.len aX (ac (aY bd (ar 0) aj (λ_ _=>rfl)) ad)) aj) ad))) (aw (i:=5) sc.nd rfl (Or.inr rfl))
   (ae (fD (i:=6) ["_law_row"] [4,5] sc.nd rfl (Or.inl rfl) rfl  rfl (bP.of (by kernel_rfl)) (by kernel_rfl) (bG (cY jf (ar 0) (cS (ar 2)) (cS (ar 3))))
    (λ_ _ _ _=>(aw (i:=0) (by show(["_law_row","_law_left","_law_right"]:List Str).Nodup;decide +kernel) rfl (Or.inl rfl))) (λ_ _ _ _=>b9) (λ_ _ _ _=>(cY lG (ar 0) (cS (ar 1)) (cS (ar 2)))))
   (ai (aS PassesOwn.never rfl (bL rfl nb.range (cy ad)) (q02 7 sc.nd)
   (ae (q01 8 sc.nd (q00 zia hr (ac (ar 6) (ac (ar 7) ad))))
   (ai (kt (Lk (Lo (by decide:1<=64) _) hu) (ar 1) (q00 zja hr (ac (ar 8) ad)) (ar 8) rfl)))))))))))))
   (ai (aP (ar 1))))),?_⟩
  have a1:=B.a1;have a6:=B.a6;have b1:=B.b1;have b6:=B.b6
  obtain⟨a9,R⟩:=dA B.rc (show 0<r from a1);have h0:iG (au p) 0=some (V.str (tx p[0])):=(show iG _ ((0:Nat):Int)=_ from bI (br a9));have U:(au p).length=r:=by rw[am,B.rc.1]
  have D:(tx p[0]).length=c:=by rw[aC,R]
  symm;refine λd hd=>h1 _ _ ?_;clear h1;generalize I:aE H d _=H1;obtain⟨s1,e1⟩:=dN hd I;have S0:wB H a d p r c 0 0 0 0 0 H1:=⟨[],e1,s1,hd,(λz hz=>nomatch hz),List.nodup_nil,List.nodup_nil,λy=>⟨(λh=>nomatch h),λ⟨t',b',l',x',u',h1,h2,_⟩=>by omega⟩,K5 _⟩;clear e1 I;symm;refine⟨_,aN.of (s1 _ _ T),?_⟩;rw[U];refine⟨⋯,⋯,?_⟩;rw[show((r:Int)).toNat=r from KN r];refine bv (lo:=0) (n:=r) (λt σ H'=>wB H a d p r c t 0 0 0 0 H'/\∃x2 J C v o m g,σ=[some (V.ref a),some (V.ref d),x2,J,C,v,o,m,g]) ⟨S0,_,_,_,_,_,_,_,rfl⟩ ?_ ?_
  ·rintro t σ H2 ht ⟨S,x2,J,C,v,o,m,g,rfl⟩
   ext;have a8:=S.sm _ _ T;refine⟨_,aN.of a8,?_⟩;rw[U];refine⟨⋯,⋯,⋯,⋯,?_⟩;rw[show((r:Int)+1-((t:Int)+1)).toNat=r-t by omega];refine bv (lo:=(t:Int)+1) (n:=r-t) (λj σ H'=>wB H a d p r c t (t+1+j) 0 0 0 H'/\∃J C v o m g,σ=[some (V.ref a),some (V.ref d),some (V.int (t:Int)),J,C,v,o,m,g]) ⟨S.cg ⋯ ⋯,_,_,_,_,_,_,rfl⟩ ?_ ?_
   ·rintro j σ H3 hj ⟨S,J,C,v,o,m,g,rfl⟩
    ext;obtain⟨b,hb⟩:∃b,t+1+j=b:=⟨_,rfl⟩;have b3:(t:Int)+1+(j:Int)=(b:Int):=by omega
    rw[hb]at S;refine⟨_,aN.of (S.sm _ _ T),_,h0,_,rfl,by rw[D];exact az ⋯,?_⟩;rw[D,b3];refine⟨⋯,⋯,?_⟩;rw[show((c:Int)).toNat=c from KN c];refine bv (lo:=0) (n:=c) (λl σ H'=>wB H a d p r c t b l 0 0 H'/\∃C v o m g,σ=[some (V.ref a),some (V.ref d),some (V.int (t:Int)),some (V.int (b:Int)),C,v,o,m,g]) ⟨S,_,_,_,_,_,rfl⟩ ?_ ?_
    ·rintro l σ H4 hl ⟨S,C,v,o,m,g,rfl⟩
     ext;refine⟨_,aN.of (S.sm _ _ T),_,h0,_,rfl,by rw[D];exact az ⋯,?_⟩;rw[D];refine⟨⋯,⋯,⋯,⋯,?_⟩;rw[show((c:Int)+1-((l:Int)+1)).toNat=c-l by omega];refine bv (lo:=(l:Int)+1) (n:=c-l) (λk σ H'=>wB H a d p r c t b l (l+1+k) 0 H'/\∃v o m g,σ=[some (V.ref a),some (V.ref d),some (V.int (t:Int)),some (V.int (b:Int)),some (V.int (l:Int)),v,o,m,g]) ⟨S.cg ⋯ ⋯,_,_,_,_,rfl⟩ ?_ ?_
     ·rintro k σ H5 hk ⟨S,v,o,m,g,rfl⟩
      obtain⟨x,hx⟩:∃x,l+1+k=x:=⟨_,rfl⟩;have a3:(l:Int)+1+(k:Int)=(x:Int):=by omega
      rw[hx]at S;rw[a3];ac_nf;have a0:ju (au p) (some (t:Int)) (some (b:Int))=au ((p.drop t).take (b-t)):=by
       unfold ju;rw[HT.sIx_nat,HT.sIx_nat,am,B.rc.1,Lv ⋯,Lv ⋯];unfold au;rw[List.map_take,List.map_drop]
      refine⟨_,aN.of (S.sm _ _ T),λl1 Z=>?_⟩;rw[a0];generalize I:aE H5 l1 _=H6;obtain⟨s6,e6⟩:=dN Z I;refine⟨⟨_,aN.of e6⟩,?_⟩;have O:∀row∈(p.drop t).take (b-t),row.length=c:=λrow hr=>B.rc.2 row (q0I (q0H hr));refine dI (as:=(p.drop t).take (b-t)) (emb:=λrow=>V.str (tx row)) (f:=λrow=>some (V.str (tx ((row.drop l).take (x-l))))) (λσ=>∃y,σ=[y,some (V.int (l:Int)),some (V.int (x:Int))]) ⟨_,rfl⟩ (λH2 s2=>aN.of (s2 _ _ e6)) (by rw[Lg,Lh,B.rc.1];omega) ?_ ?_
      ·rintro j row a7 σ H2 M1 M0 ⟨y,rfl⟩ s2 k1 k0
       have hb:=O row (KH a7);ext;refine⟨by rw[aC];exact az ⋯,?_⟩;rw[fB,HT.sIx_nat,HT.sIx_nat,hb,Lv ⋯,Lv ⋯];exact k1 _ _ _ rfl s2 ⟨_,rfl⟩
      ·intro H7 s7 l2 Y
       rw[i_];have er:((p.drop t).take (b-t)).map (λrow=>V.str (tx ((row.drop l).take (x-l))))=au (cut p t l b x):=by unfold au cut;rw[KS];rfl
       rw[er];refine h2 _ _ ?_;clear h2;generalize I:aE H7 l2 _=H8;obtain⟨s8,e8⟩:=dN Y I;have S8:=S.up (s6.trans (s7.trans s8));clear S s6 s7 s8 a0 O er e6 I Y Z;have a5:=cI B.rc (show t<b by omega) (show b<=r by omega) (show l<x by omega) (show x<=c by omega);ext;refine⟨⋯,?_⟩;have b4:Int.toNat 8=8:=rfl;rw[b4];refine bv (lo:=0) (n:=8) (λu σ H'=>wB H a d p r c t b l x u H'/\H' l2=some (.lst (au (cut p t l b x)))/\∃m g,σ=[some (V.ref a),some (V.ref d),some (V.int (t:Int)),some (V.int (b:Int)),some (V.int (l:Int)),some (V.int (x:Int)),some (V.ref l2),m,g]) ⟨S8,e8,_,_,rfl⟩ ?_ ?_
       ·rintro u σ H9 M ⟨⟨zs,S⟩,G,m,g,rfl⟩
        ext;refine⟨l2,cut p t l b x,b-t,x-l,u,by simp,G,a5,⋯,⋯,⋯,⋯,M,λbq c0 b2 a2 L=>?_⟩;obtain⟨o1,o2,r',c',o3,o4,o5,o6,o7⟩:=tN (u:=u) B.rc B.ns (show t<b by omega) (show b<=r by omega) (show l<x by omega) (show x<=c by omega);have a4:dl (turned (cut p t l b x) u):=dl.of o3 ⋯ ⋯;have b0:((turned (cut p t l b x) u).headD []).length<=64:=by rw[bf o3 o4];omega
        obtain⟨e1,S5⟩:=S.step L b2 a2 o1 o2 b0;have hln9:=S.len;refine⟨bq,turned (cut p t l b x) u,rfl,a2,a4,aE c0 d (.dK ((kx zs (bq,turned (cut p t l b x) u)).map eU)),.inl ⟨zs.map eU,_,L _ _ S.tbl,rfl,by rw[KD];exact aR ⋯,by rw[<- e1]⟩,⟨_,Cw (S5.congr (Ad.one ⋯ ⋯ ⋯ ⋯ M)) ⋯⟩,?_⟩;rw[av (oV G S.tbl (by intro e;cases e))];exact L _ _ G
       ·rintro σ H9 ⟨S,G,m,g,rfl⟩
        rw[show l+1+(k+1)=x+1 by omega];exact⟨S.cg ⋯ ⋯,_,_,_,_,rfl⟩
     ·rintro σ H5 ⟨S,v,o,m,g,rfl⟩
      exact⟨S.cg ⋯ ⋯,_,_,_,_,_,rfl⟩
    ·rintro σ H4 ⟨S,C,v,o,m,g,rfl⟩
     exact⟨S.cg ⋯ ⋯,_,_,_,_,_,_,rfl⟩
   ·rintro σ H3 ⟨S,J,C,v,o,m,g,rfl⟩
    exact⟨S.cg ⋯ ⋯,_,_,_,_,_,_,_,rfl⟩
  ·rintro σ H2 ⟨S,x2,J,C,v,o,m,g,rfl⟩
   refine h1 _ _ ?_;ext;obtain⟨zs,S⟩:=S;exact q d H2 zs (Cw (S.congr Ad.all) ⋯)
section
variable {X:Cx}
def F5:List V->Hp->VK->Prop:=λxs H Q=>∃b,xs=[.bl b]/\Q (.int (if b=true then 1 else 0)) H
theorem uD:d0 X (.type "int") F5:=by
 intro pins s σ H xs us Q I r h;obtain⟨b,rfl,q⟩:=h;obtain⟨u,rfl,a⟩:=mw r;obtain rfl:u=Value.bool b:=a;exact PySem.call_int_bool ⟨.int _,H,I.tok _,⟨_,rfl⟩,q⟩
end
def lL(l:Addr)(H0 H:Hp)(b:Addr)(y:List Ky):Prop:=b≠l/\H0 b=none/\iz H b y
theorem lL.up{H0:Hp}(h:lL l H0 H b y)(s:aD H H'):lL l H0 H' b y:=⟨h.1,h.2.1,ib h.2.2 s⟩
theorem lL.put{H0:Hp}(h:lL l H0 H b y)(hl:H l=some (.lst xs)):lL l H0 (aE H l o) b y:=⟨h.1,h.2.1,mY h.2.2 hl h.1⟩
theorem wW{row:LA}{n:Nat}(h:n<=row.length):Txt.slice (tx row) none (some (n:Int))=tx (row.take n):=by
 rw[fB,HT.sIx_nat,Lv h];show tx ((row.drop 0).take (n-0))=_;rw[Lw,Nat.sub_zero]
theorem rD{row:LA}{n:Nat}(h:n<=row.length):Txt.slice (tx row) (some (n:Int)) none=tx (row.drop n):=by
 rw[fB,HT.sIx_nat,Lv h];show tx ((row.drop n).take (row.length-n))=_;rw[q0F (by rw[Lh];omega)]
abbrev nA:Stmt:=fS 68
inductive qj(K:W.Frag)(vs:List V)(H:Hp)(Q:VK)(_E:XK):Prop
 |mk (t lp:Addr) (x:Nat×RV) (p:aL) (a b:Nat) (_:vs=[.ref t,.ref lp]) (_:H t=some (.tup (j7 x))) (_:kF x) (_:H lp=some (.lst (au p))) (_:ii p a b) (_:∀l H',H l=none->jH (lT H) H' l (bR x p)->aD H H'->Q (.ref l) H')
theorem Ab:aI ["_law_rule","_law_picture","_law_kind","_law_name","_law_cost","_law_one","_law_other","_law_found","_law_at","_law_first"] ["_law_rule","_law_picture"] (ax nA):=by walk_at "c"
theorem BS{v:RV}(h:iB v.sg=true):∃g,v.sg=[g]:=by
 unfold iB at h;rw[q0O,q0b]at h;exact List.length_eq_one_iff.mp h.1
theorem Di{g:Nat}(h:ii p a b):decide (p.map tx=[tx [g]])=decide (bu p=[g]):=by
 by_cases e:p=[[g]]
 ·subst e
  rw[q09 (show[[g]].map tx=[tx [g]] from rfl),q09 (show bu [[g]]=[g] from rfl)]
 ·rw[q08,q08]
  ·intro c
   match p,h.rc,c with
   | [],hr,_=>have:=hr.1;have:=h.a1;simp at *;omega
   | [row],hr,c=>exact e (by rw[show row=[g] from c])
   |row::row'::ci,hr,c=>
    have j:row++47::bu (row'::ci)=[g]:=c;have i:=q0R List.length j;have hb:=hr.2 row (by simp);have:=h.b1;rw[K3,KP]at i;simp at i;omega
  ·intro d
   match p,d with
   | [row],d=>
    have:tx row=tx [g]:=by injection d
    exact e (by rw[tx_inj this])
theorem zL{f:Addr}(F:dw K "_law_uses" "_law_uses" nA f fd)(nb:NB mg)(zja:↑dP 1 "_law_text" ["_law_picture"] (lg K))(zVb:↑dP 1 "_law_back" ["_law_t"] qJ)(zia:↑dP 1 "_law_turned" ["_law_picture","_law_t"] (fV K)):↑bC 2 f fd ["_law_rule","_law_picture"] (qj K):=by
 have sc:=Ab;walk_at "f"
 ·obtain⟨t,lp,x,p,a,b,rfl,ht,hg,hp,u,q⟩:=h
  have hu:=hr.units;obtain⟨k,v⟩:=x;have g:v.good:=hg.good;refine⟨_,(ae (AS (ar 0) (ip (n:=5) rfl (bh (q02 2 sc.nd) (bh (q02 3 sc.nd) (bh (q02 4 sc.nd) (bh (q02 5 sc.nd) (bh (q02 6 sc.nd) dD)))))))
   (ae (bX (aQ dz (ar 2) aj (a_ _))
   (ai (aP (cq ["_law_k"] [] rfl (bP.of (by kernel_rfl)) (by kernel_rfl) (bL rfl nb.range (ac (cV uD rfl nb.int BC (ac (mW (Fl hu) (ar 1) (bw (ac (ar 5) ad)) (a_ _)) ad)) ad))
    (λ_ _ _ _=>(aw (i:=0) (by show(["_law_k"]:List Str).Nodup;decide +kernel) rfl (Or.inl rfl))) (λ_ _ _ _=>b9) (λ_ _ _ _=>(bw ad)))))
   bj)
   (ae (bX (aQ dz (ar 2) aj (a_ _))
   (ai (aP (bw (ac (bw (ac (bO (ac (q00 zja hr (ac (q00 zia hr (ac (ar 1) (ac (q00 zVb hr (ac (ar 6) ad)) ad))) ad)) (ac (ar 5) ad))) ad)) ad))))
   bj)
   (ae (q01 7 sc.nd (bw ad))
   (ae (bX (aQ dz (ar 2) aj (a_ _))
   (ai (aS PassesOwn.never rfl (d_ rfl nb.range (cy (ac (aB bi rfl nb.len aX (ac (aY bd (ar 1) aj (λ_ _=>rfl)) ad)) ad))) (aw (i:=8) sc.nd rfl (Or.inr rfl))
   (ae (q01 9 sc.nd (q00 zja hr (ac (cq ["_law_row"] [8] rfl (bP.of (by kernel_rfl)) (by kernel_rfl) (bG (ar 1))
    (λ_ _ _ _=>(aw (i:=0) (by show(["_law_row","_law_at"]:List Str).Nodup;decide +kernel) rfl (Or.inl rfl))) (λ_ _ _ _=>b9) (λ_ _ _ _=>(cY lG (ar 0) fX (cS (ar 1))))) ad)))
   (ai (bg (q03 (ar 7) (ac (bw (ac (bO (ac (ar 9) (ac (ar 5) ad))) (ac (bO (ac (q00 zja hr (ac (cq ["_law_row"] [8] rfl (bP.of (by kernel_rfl)) (by kernel_rfl) (bG (ar 1))
    (λ_ _ _ _=>(aw (i:=0) (by show(["_law_row","_law_at"]:List Str).Nodup;decide +kernel) rfl (Or.inl rfl))) (λ_ _ _ _=>b9) (λ_ _ _ _=>(cY lG (ar 0) (cS (ar 1)) fX))) ad)) (ac (ar 6) ad))) ad))) ad)))))))
   (ai (aS PassesOwn.never rfl (d_ rfl nb.range (cy (ac (aB aU rfl nb.len aX (ac (ar 1) ad)) ad))) (aw (i:=8) sc.nd rfl (Or.inr rfl))
   (ai (bg (q03 (ar 7) (ac (bw (ac (bO (ac (q00 zja hr (ac (cY jf (ar 1) fX (cS (ar 8))) ad)) (ac (ar 5) ad))) (ac (bO (ac (q00 zja hr (ac (cY jf (ar 1) (cS (ar 8)) fX) ad)) (ac (ar 6) ad))) ad))) ad)))))))
   (ai (aP (ar 7)))))))),?_⟩
  refine aq λN1 h1=>?_;have sq:=dO.of (K:=K) ht;have a1:=u.a1;have b1:=u.b1;have a6:=u.a6;have b6:=u.b6;obtain⟨b3,a5⟩:=dA u.rc (show 0<a from u.a1);have h0:iG (au p) 0=some (V.str (tx p[0])):=(show iG _ ((0:Nat):Int)=_ from bI (br b3));have z:dl p:=dl.of u.rc ⋯ ⋯;ext;rcases eM hg.k4 with e | e | e | e<;>(simp only at e;subst e)
  ·change dO K H t [.int 0,.str (tx v.n),.int v.c,.str (tx v.sg),.str ""]at sq
   refine⟨_,sq,rfl,_,_,rfl,_,_,rfl,_,_,rfl,_,_,rfl,_,_,rfl,rfl,h1 _ _ ?_⟩;clear h1;obtain⟨gs,a9⟩:=BS g.sg;symm;refine⟨az (by decide),λl1 a8=>?_⟩;generalize d:aE H l1 _=H1;obtain⟨C,e1⟩:=dN a8 d;refine⟨lp,l1,p.map tx,[tx v.sg],rfl,rfl,by rw[<- d8];exact aN.of (C _ _ hp),aN.of e1,?_⟩;rw[a9,Di u];refine⟨_,rfl,_,rfl,by split<;>omega,by split<;>omega,?_⟩;have G:bR (0,v) p=List.replicate (if decide (bu p=[gs])=true then 1 else 0:Int).toNat []:=by
    show(if bu p=v.sg then[[]] else[])=_;rw[a9]
    by_cases h:bu p=[gs]
    ·rw[q07 h,q07 (by simpa using h)];rfl
    ·rw[q06 h,q06 (by simpa using h)];rfl
   generalize hn:(if decide (bu p=[gs])=true then 1 else 0:Int).toNat=n at G ⊢;have hn1:n<=1:=by rw[<- hn];split<;>decide
   refine gY (lo:=0) (n:=n) (λi S σ D=>aD H1 D/\i<=n/\(∃bs:List Addr,S=bs.map V.ref/\aW (lT H) D bs (List.replicate i []))/\∃x,σ=[x]) ⟨λ_ _ h=>h,K5 _,⟨[],rfl,aW.nil⟩,_,rfl⟩ ?_ ?_ ?_ ?_
   ·rintro i S σ D ⟨_,hi,⟨bs,rfl,L⟩,_⟩
    have:=L.1;rw[List.length_replicate]at this;rw[KD];exact aR ⋯
   ·rintro i S σ D ⟨_,hi,_⟩
    exact hi
   ·rintro i S σ D hi ⟨sm,_,⟨bs,rfl,L⟩,x,rfl⟩
    ext;refine⟨K5 _,λl2 r=>⟨sm.trans (ao r),hi,⟨bs++[l2],by rw[KQ];rfl,?_⟩⟩⟩;rw[show([]::List.replicate i [])=List.replicate i ([]:List Ky)++[[]] from(q0c (n:=i)).symm.trans List.replicate_succ'];exact(L.mono λb y _ _ h=>⟨h.1,ib h.2 (ao r)⟩).snoc ⟨C.free (sm.free r),[],af,aW.nil⟩
   ·rintro S σ D ⟨sm,_,⟨bs,rfl,L⟩,x,rfl⟩ l2 r
    exact q l2 _ (C.free (sm.free r)) ⟨bs,af,by rw[G];exact L.mono λb y _ _ h=>⟨h.1,ib h.2 (ao r)⟩⟩ (C.trans (sm.trans (ao r)))
  ·change dO K H t [.int 1,.str (tx v.n),.int v.c,.str (tx v.o1),.str (tx v.o2)]at sq
   refine⟨_,sq,rfl,_,_,rfl,_,_,rfl,_,_,rfl,_,_,rfl,_,_,rfl,rfl,h1 _ _ ?_⟩;grind;rw[q06 (by decide)];refine h1 _ _ ?_;grind;rw[q06 (by decide)];refine h1 _ _ ?_;grind;refine⟨K5 _,λl hl=>h1 _ _ ?_⟩;clear h1;generalize d:aE H l _=H1;obtain⟨C,e1⟩:=dN hl d;symm;refine⟨_,aN.of (C _ _ hp),_,h0,_,rfl,by rw[aC];exact az ⋯,by decide,⋯,by rw[aC];omega,?_⟩;rw[aC,a5,show((b:Int)-1).toNat=b-1 by omega];have G:bR (1,v) p=(List.range (b-1)).map λi=>[(bu (p.map (List.take (i+1))),v.o1),(bu (p.map (List.drop (i+1))),v.o2)]:=by
    show(bU true p (p.headD []).length).map _=_;unfold bU;rw[bf u.rc (show 0<a by omega),KS];rfl
   refine bv (lo:=1) (n:=b-1) (λi σ D=>aD H D/\(∃bs:List Addr,D l=some (.lst (bs.map V.ref))/\bs.length=i/\aW (lL l H) D bs ((List.range i).map λi=>[(bu (p.map (List.take (i+1))),v.o1),(bu (p.map (List.drop (i+1))),v.o2)]))/\∃x8 x9,σ=[some (V.ref t),some (V.ref lp),some (V.int 1),some (V.str (tx v.n)),some (V.int v.c),some (V.str (tx v.o1)),some (V.str (tx v.o2)),some (V.ref l),x8,x9]) ⟨C,⟨[],e1,rfl,aW.nil⟩,_,_,rfl⟩ ?_ ?_
   ·rintro i σ H2 hi ⟨sm,⟨bs,hb,R,L⟩,x8,x9,rfl⟩
    have I:=sm _ _ hp;have M:∀j,dl (p.map (List.take j))/\dl (p.map (List.drop j)):=λj=>⟨⟨by rw[KD];exact z.1,λx hx=>by
      obtain⟨y,hy,rfl⟩:=Lm.mp hx;rw[Lg];exact K' (Nat.min_le_right _ _) (z.2 y hy)⟩,⟨by rw[KD];exact z.1,λx hx=>by
      obtain⟨y,hy,rfl⟩:=Lm.mp hx;rw[Lh];exact K' (Nat.sub_le _ _) (z.2 y hy)⟩⟩
    symm;refine⟨⟨_,aN.of I⟩,?_⟩;refine dI (as:=p) (emb:=λrow=>V.str (tx row)) (f:=λrow=>some (V.str (tx (row.take (i+1))))) (λσ=>∃x,σ=[x,some (V.int (1+(i:Int)))]) ⟨_,rfl⟩ (λH3 s3=>aN.of (s3 _ _ I)) (by rw[u.rc.1];omega) ?_ ?_
    ·rintro j row a2 σ H3 M1 M0 ⟨y,rfl⟩ s3 k1 k0
     have c0:=u.rc.2 row (KH a2);ext;refine⟨by rw[aC];exact az ⋯,?_⟩;rw[show(1+(i:Int))=((i+1:Nat):Int) by push_cast;rw[Int.add_comm],wW ⋯];exact k1 _ _ _ rfl s3 ⟨_,by push_cast;rw[Int.add_comm]⟩
    ·intro H3 s3 l3 J
     rw[i_,show p.map (λrow=>V.str (tx (row.take (i+1))))=au (p.map (List.take (i+1))) by unfold au;rw[KS];rfl];generalize d:aE H3 l3 _=H4;obtain⟨U,e4⟩:=dN J d;refine⟨l3,_,rfl,e4,(M _).1,h1 _ _ ?_⟩;clear h1;have sB:=s3.trans U;have b2:=sB _ _ I;have a4:=sB _ _ hb;have c1:=L.mono λb y _ _ (h:lL l H H2 b y)=>h.up sB;ext;refine⟨.inl ⟨rfl,_,aN.of a4⟩,az (by decide),λT O=>?_⟩;generalize d:aE H4 T _=H5;obtain⟨s5,(e5:bD H5 T (bu (p.map (List.take (i+1))),v.o1))⟩:=dN O d;have a7:=s5 _ _ b2;refine⟨⟨_,aN.of a7⟩,?_⟩;refine dI (as:=p) (emb:=λrow=>V.str (tx row)) (f:=λrow=>some (V.str (tx (row.drop (i+1))))) (λσ=>∃x,σ=[x,some (V.int (1+(i:Int)))]) ⟨_,rfl⟩ (λH6 s6=>aN.of (s6 _ _ a7)) (by rw[u.rc.1];omega) ?_ ?_
     ·rintro j row a2 σ H6 M1 M0 ⟨y,rfl⟩ s6 k1 k0
      have c0:=u.rc.2 row (KH a2);ext;refine⟨by rw[aC];exact az ⋯,?_⟩;rw[show(1+(i:Int))=((i+1:Nat):Int) by push_cast;rw[Int.add_comm],rD ⋯];exact k1 _ _ _ rfl s6 ⟨_,by push_cast;rw[Int.add_comm]⟩
     ·intro H6 s6 l7 a3
      rw[i_,show p.map (λrow=>V.str (tx (row.drop (i+1))))=au (p.map (List.drop (i+1))) by unfold au;rw[KS];rfl];generalize d:aE H6 l7 _=H7;obtain⟨Z,e7⟩:=dN a3 d;refine⟨l7,_,rfl,e7,(M _).2,az (by decide),λt2 a0=>?_⟩;generalize d:aE H7 t2 _=H8;obtain⟨Y,(e8:bD H8 t2 (bu (p.map (List.drop (i+1))),v.o2))⟩:=dN a0 d;refine⟨az (by decide),λl9 m=>?_⟩;generalize d:aE H8 l9 _=H9;obtain⟨s9,e9⟩:=dN m d;have sC:=s5.trans (s6.trans (Z.trans (Y.trans s9)));have B:=sC _ _ a4;refine⟨_,B,by rw[KD];exact aR ⋯,bz (sm.trans (sB.trans sC)) hl,bs++[l9],by rw[af,KQ];rfl,by rw[K3,R];rfl,?_⟩;rw[q0M,KQ];refine(c1.mono λb y _ _ (h:lL l H H4 b y)=>(h.up sC).put B).snoc (lL.put ⟨λe=>?_,sm.free (sB.free (s5.free (s6.free (Z.free (Y.free m))))),[T,t2],e9,aW.two (((e5.up s6).up Z).up Y |>.up s9) (e8.up s9)⟩ B);rw[e]at m;rw[(s5.trans (s6.trans (Z.trans Y))) _ _ a4]at m;cases m
   ·rintro σ H2 ⟨sm,⟨bs,hb,R,L⟩,x8,x9,rfl⟩
    refine h1 _ _ ?_;ext;exact q l H2 hl ⟨bs,hb,by rw[G];exact L.mono λb y _ _ h=>⟨h.2.1,h.2.2⟩⟩ sm
  ·change dO K H t [.int 2,.str (tx v.n),.int v.c,.str (tx v.o1),.str (tx v.o2)]at sq
   refine⟨_,sq,rfl,_,_,rfl,_,_,rfl,_,_,rfl,_,_,rfl,_,_,rfl,rfl,h1 _ _ ?_⟩;grind;rw[q06 (by decide)];refine h1 _ _ ?_;grind;rw[q06 (by decide)];refine h1 _ _ ?_;grind;refine⟨K5 _,λl hl=>h1 _ _ ?_⟩;clear h1;generalize d:aE H l _=H1;obtain⟨C,e1⟩:=dN hl d;symm;refine⟨_,aN.of (C _ _ hp),by decide,⋯,by rw[am,u.rc.1];omega,?_⟩;rw[am,u.rc.1,show((a:Int)-1).toNat=a-1 by omega];have G:bR (2,v) p=(List.range (a-1)).map λi=>[(bu (p.take (i+1)),v.o1),(bu (p.drop (i+1)),v.o2)]:=by
    show(bU false p p.length).map _=_;unfold bU;rw[u.rc.1,KS];rfl
   refine bv (lo:=1) (n:=a-1) (λi σ D=>aD H D/\(∃bs:List Addr,D l=some (.lst (bs.map V.ref))/\bs.length=i/\aW (lL l H) D bs ((List.range i).map λi=>[(bu (p.take (i+1)),v.o1),(bu (p.drop (i+1)),v.o2)]))/\∃x8 x9,σ=[some (V.ref t),some (V.ref lp),some (V.int 2),some (V.str (tx v.n)),some (V.int v.c),some (V.str (tx v.o1)),some (V.str (tx v.o2)),some (V.ref l),x8,x9]) ⟨C,⟨[],e1,rfl,aW.nil⟩,_,_,rfl⟩ ?_ ?_
   ·rintro i σ H2 hi ⟨sm,⟨bs,hb,R,L⟩,x8,x9,rfl⟩
    have I:=sm _ _ hp;have M:∀j,dl (p.take j)/\dl (p.drop j):=λj=>⟨⟨by rw[Lg];exact K' (Nat.min_le_right _ _) z.1,λx hx=>z.2 x (q0H hx)⟩,⟨by rw[Lh];exact K' (Nat.sub_le _ _) z.1,λx hx=>z.2 x (q0I hx)⟩⟩;have ct:ju (au p) none (some (1+(i:Int)))=au (p.take (i+1)):=by
     rw[show(1+(i:Int))=((i+1:Nat):Int) by push_cast;rw[Int.add_comm]];unfold ju;rw[HT.sIx_nat,HT.sIx_none,am,u.rc.1,Lv ⋯,Lw,Nat.sub_zero];unfold au;rw[List.map_take]
    have cd:ju (au p) (some (1+(i:Int))) none=au (p.drop (i+1)):=by
     rw[show(1+(i:Int))=((i+1:Nat):Int) by push_cast;rw[Int.add_comm]];unfold ju;rw[HT.sIx_nat,HT.sIx_none,am,u.rc.1,Lv ⋯,q0F (by rw[Lh,am,u.rc.1];exact K4 _)];unfold au;rw[List.map_drop]
    ext;refine⟨.inl ⟨rfl,_,aN.of hb⟩,_,aN.of I,λl3 J=>?_⟩;rw[ct];generalize d:aE H2 l3 _=H4;obtain⟨U,e4⟩:=dN J d;refine⟨l3,_,rfl,e4,(M _).1,az (by decide),λT O=>?_⟩;generalize d:aE H4 T _=H5;obtain⟨s5,(e5:bD H5 T (bu (p.take (i+1)),v.o1))⟩:=dN O d;refine⟨_,aN.of ((U.trans s5) _ _ I),λl7 a3=>?_⟩;rw[cd];generalize d:aE H5 l7 _=H7;obtain⟨Z,e7⟩:=dN a3 d;refine⟨l7,_,rfl,e7,(M _).2,az (by decide),λt2 a0=>?_⟩;generalize d:aE H7 t2 _=H8;obtain⟨Y,(e8:bD H8 t2 (bu (p.drop (i+1)),v.o2))⟩:=dN a0 d;refine⟨az (by decide),λl9 m=>?_⟩;generalize d:aE H8 l9 _=H9;obtain⟨s9,e9⟩:=dN m d;have sC:=U.trans (s5.trans (Z.trans (Y.trans s9)));have B:=sC _ _ hb;refine⟨_,B,by rw[KD];exact aR ⋯,bz (sm.trans sC) hl,bs++[l9],by rw[af,KQ];rfl,by rw[K3,R];rfl,?_⟩;rw[q0M,KQ];refine(L.mono λb y _ _ (h:lL l H H2 b y)=>(h.up sC).put B).snoc (lL.put ⟨λe=>?_,sm.free (U.free (s5.free (Z.free (Y.free m)))),[T,t2],e9,aW.two ((e5.up Z).up Y |>.up s9) (e8.up s9)⟩ B);rw[e]at m;rw[(U.trans (s5.trans (Z.trans Y))) _ _ hb]at m;cases m
   ·rintro σ H2 ⟨sm,⟨bs,hb,R,L⟩,x8,x9,rfl⟩
    refine h1 _ _ ?_;ext;exact q l H2 hl ⟨bs,hb,by rw[G];exact L.mono λb y _ _ h=>⟨h.2.1,h.2.2⟩⟩ sm
  ·change dO K H t [.int 3,.str (tx v.n),.int v.c,.str (tx v.o1),.int v.t]at sq
   refine⟨_,sq,rfl,_,_,rfl,_,_,rfl,_,_,rfl,_,_,rfl,_,_,rfl,rfl,h1 _ _ ?_⟩;grind;rw[q06 (by decide)];refine h1 _ _ ?_;grind;have t0:=g.t0;have t7:=g.t7;have b4:=jb (show v.t.toNat<8 by omega);refine⟨v.t.toNat,by rw[Lu t0],⋯,lp,p,a,b,df v.t.toNat,rfl,hp,u.rc,⋯,⋯,⋯,⋯,b4,λl1 H1 a8 e1 C=>?_⟩;have b0:=cO u.rc (show 0<a by omega) (show 0<b by omega) (df v.t.toNat);refine⟨l1,_,rfl,e1,dl.of b0 (by split<;>omega) (by split<;>omega),az (by decide),λT O=>⟨az (by decide),λl2 r=>⟨az (by decide),λl3 J=>?_⟩⟩⟩;have s2:=ao (o:=.tup [V.str (tx (bu (turned p (df v.t.toNat)))),V.str (tx v.o1)]) O;have s3:=ao (o:=.lst [V.ref T]) r;have U:=ao (o:=.lst [V.ref l2]) J;refine q l3 _ (C.free (s2.free (s3.free J))) ⟨[l2],af,aW.one ⟨C.free (s2.free r),[T],U _ _ af,aW.one ?_⟩⟩ (C.trans (s2.trans (s3.trans U)));show _=_;exact U _ _ (s3 _ _ af)
def Gs(xs ys:List Int):Prop:=ys.Perm xs/\ys.Pairwise (·<=·)
def eX(T:Ky->Option Int)(rs:Yaa)(p:aL)(n:LA):List Int:=rs.flatMap λx=>if x.2.n=n then(bR x p).filterMap λw=>bS T x.2.c w else[]
theorem E8{x:Nat×RV}(h:x.1<4):iG (j7 x) 1=some (.str (tx x.2.n))/\iG (j7 x) 2=some (.int x.2.c):=by
 obtain⟨k,v⟩:=x;rcases eM h with e | e | e | e<;>(simp only at e;subst e)<;>exact⟨rfl,rfl⟩
theorem ud(T:Ky->Option Int):∀(way:List Ky) (c:Int),bS T c way=if(way.all λk=>(T k).isSome)=true then some (c+(way.map λk=>(T k).getD 0).sum) else none
 | [],c=>by simp[bS]
 |k::way,c=>by
  show(match T k with | none=>none | some v=>bS T (c+v) way)=_;cases h:T k with
  |none=>simp[h]
  |some v=>
   show bS T (c+v) way=_;rw[ud T way (c+v)];simp only[List.all_cons,h,Option.isSome_some,Bool.true_and,K_,q0L,List.sum_cons]
   split
   ·rw[Int.add_assoc]
   ·rfl
theorem BL(s:aD H H')(h:Rd H a x):Rd H' a x:=h.elim (λh=>.inl (s _ _ h)) λ⟨o,h⟩=>.inr ⟨o,s _ _ h⟩
theorem yo{tb:Tb}(hd:Rd H d (.dT (tb.map dj)))(hb:bD H b k):jr H d (.ref b) ((aH tb k).map V.int):=.inr ⟨tb.map dj,gM k,b,hd,rfl,hb,(gI tb k).symm⟩
theorem xN{α:Type}:∀{bs:LD} {ys:List α},bs.length=ys.length->(bs.zip ys).map (λx=>V.ref x.1)=bs.map V.ref
 | [],[],_=>rfl
 |b::bs,y::ys,h=>by rw[List.zip_cons_cons,K_,K_,xN (Nat.succ.inj h)]
theorem Dg{x:Nat×RV}{j:Nat}{way:List Ky}(h4:x.1<4)(h:(bR x p)[j]?=some way):way.length<=2:=by
 obtain⟨k,v⟩:=x;have a:=KH h;rcases eM h4 with h | h | h | h<;>(simp only at h;subst h)
 ·have a:way∈(if bu p=v.sg then[[]] else[]):=a
  split at a<;>simp at a
  subst a;simp
 ·obtain⟨_,_,rfl⟩:=Lm.mp (show way∈(bU true p (p.headD []).length).map _ from a)
  exact K4 _
 ·obtain⟨_,_,rfl⟩:=Lm.mp (show way∈(bU false p p.length).map _ from a)
  exact K4 _
 ·have a:way∈([[_]]:List (List Ky)):=a
  simp at a;subst a;simp
theorem v6{α:Type}(g:α->V):∀{bs:LD} {ys:List α},bs.length=ys.length->(bs.zip ys).filterMap (λx=>some (g x.2))=ys.map g
 | [],[],_=>rfl
 |b::bs,y::ys,h=>by
  show(List.filterMap (λx:Addr×α=>some (g x.2)) ((b,y)::bs.zip ys))=_;have:=v6 g (bs:=bs) (ys:=ys) (Nat.succ.inj h);simp only[q0U,this,K_]
abbrev lC:Stmt:=fS 69
inductive nJ(K:W.Frag)(vs:List V)(H:Hp)(Q:VK)(_E:XK):Prop
 |mk (lr d lp:Addr) (ts:LD) (rs:Yaa) (tb:Tb) (p:aL) (a b:Nat) (n:LA) (_:vs=[.ref lr,.ref d,.ref lp,.str (tx n)]) (_:cE H lr ts rs) (_:(∀x∈rs,kF x)) (_:rs.length<=24) (_:Rd H d (.dT (tb.map dj))) (_:H lp=some (.lst (au p))) (_:ii p a b) (_:∀l ys H',H l=none->H' l=some (.lst (ys.map V.int))->Gs (eX (aH tb) rs p n) ys->aD H H'->Q (.ref l) H')
theorem wY:aI ["_law_rules","_law_told","_law_picture","_law_name","_law_found","_law_rule","_law_use"] ["_law_rules","_law_told","_law_picture","_law_name"] (ax lC):=by walk_at "c"
theorem vZ{f:Addr}(F:dw K "_law_costs" "_law_costs" lC f fd)(nb:NB mg)(ybc:mg "sum"=none)(zWb:↑dP 2 "_law_uses" ["_law_rule","_law_picture"] (qj K)):↑bC 3 f fd ["_law_rules","_law_told","_law_picture","_law_name"] (nJ K):=by
 have sc:=wY;walk_at "f"
 ·obtain⟨lr,d,lp,ts,rs,tb,p,a,b,n,rfl,hR,hg,r24,hd,hp,hP,q⟩:=h
  have hu:=hr.units;refine⟨_,(ae (q01 4 sc.nd (bw ad))
   (ae (aS PassesOwn.never rfl (bG (ar 0)) (q02 5 sc.nd)
   (ai (bX (aQ dz (aY bV (ar 5) aj (λ_ _=>rfl)) (ar 3) (a_ _))
   (ai (aS PassesOwn.never rfl (bG (q00 zWb hr (ac (ar 5) (ac (ar 2) ad)))) (q02 6 sc.nd)
   (ai (bX (fb (aB (uK rfl) rfl nb.all Cg (ac (cq ["_law_key"] [1] rfl (bP.of (by kernel_rfl)) (by kernel_rfl) (bG (ar 6))
    (λ_ _ _ _=>(aw (i:=0) (by show(["_law_key","_law_told"]:List Str).Nodup;decide +kernel) rfl (Or.inl rfl))) (λ_ _ _ _=>b9) (λ_ _ _ _=>(Fe (xp (Lk (Lo (by decide:1<=64) _) hu) (ar 0) (ar 1)) (by with_unfolding_all rfl)))) ad)) λ_=>rfl)
   (ai (bg (q03 (ar 4) (ac (ay (bE.m0 bK) (aY bV (ar 5) aj (λ_ _=>rfl)) (aB (zd rfl) rfl ybc Fv (ac (cq ["_law_key"] [1] rfl (bP.of (by kernel_rfl)) (by kernel_rfl) (bG (ar 6))
    (λ_ _ _ _=>(aw (i:=0) (by show(["_law_key","_law_told"]:List Str).Nodup;decide +kernel) rfl (Or.inl rfl))) (λ_ _ _ _=>b9) (λ_ _ _ _=>(i8 (Lk (Lo (by decide:1<=64) _) hu) (ar 1) (ar 0) (λ_ _=>rfl)))) ad))) ad))))
   bj))))
   bj)))
   (ai (aP (aB vY rfl nb.sorted zQ (ac (ar 4) ad)))))),?_⟩
  symm;refine⟨K5 _,λl hl=>h1 _ _ ?_⟩;clear h1;generalize z0:aE H l _=H1;obtain⟨s1,e1⟩:=dN hl z0;symm;refine⟨⟨_,aN.of (s1 _ _ hR.1)⟩,?_⟩;have c7:=hR.2.1;refine bW (xs:=ts.map V.ref) (λi σ u=>aD H u/\i<=ts.length/\(∃xs:List Int,u l=some (.lst (xs.map V.int))/\xs=eX (aH tb) (rs.take i) p n/\xs.length<=6*i)/\∃x5 S,σ=[some (V.ref lr),some (V.ref d),some (V.ref lp),some (V.str (tx n)),some (V.ref l),x5,S]) ⟨s1,K5 _,⟨[],e1,rfl,K4 _⟩,_,_,rfl⟩ (λi σ u _ h=>aN.of (h.1 _ _ hR.1)) ?_ ?_
  ·rintro i x0 σ u hx ⟨sm,_,⟨xs,o,C,c5⟩,x5,S,rfl⟩
   rw[KG]at hx;obtain⟨t,ht,rfl⟩:=K8.mp hx;have hi:=(KA.mp ht).1;obtain⟨x,D⟩:∃x,rs[i]?=some x:=⟨_,Kz ⋯⟩;have I:=hg x (KH D);have a9:=sm _ _ (hR.2.2 i t x ht D);obtain⟨r1,r2⟩:=E8 I.k4;have a8:eX (aH tb) (rs.take (i+1)) p n=eX (aH tb) (rs.take i) p n++(if x.2.n=n then(bR x p).filterMap λw=>bS (aH tb) x.2.c w else[]):=by
    unfold eX;rw[q0E,D,List.flatMap_append];simp
   ext;refine⟨_,dO.of a9,_,r1,rfl,?_⟩
   by_cases e:x.2.n=n
   ·rw[q07 (by rw[e])]
    have c9:iF p a b:=⟨hP.rc,hP.a1,hP.a6,hP.b1,hP.b6⟩;refine⟨t,lp,x,p,a,b,rfl,a9,I,sm _ _ hp,hP,λlw H2 b2 hW s2=>?_⟩;obtain⟨ws,a5,c1⟩:=hW;have hwl:=k9 I.k4 c9;refine⟨lw,rfl,⟨_,aN.of a5⟩,?_⟩;have b0:lw≠l:=λe=>by rw[e,o]at b2;cases b2
    refine bW (xs:=ws.map V.ref) (λj σ L=>aD H L/\L lw=some (.lst (ws.map V.ref))/\aW iz L ws (bR x p)/\(∀a∈ws,a≠l)/\j<=ws.length/\(∃M:List Int,L l=some (.lst (M.map V.int))/\M=eX (aH tb) (rs.take i) p n++((bR x p).take j).filterMap (λw=>bS (aH tb) x.2.c w)/\M.length<=6*i+j)/\∃S,σ=[some (V.ref lr),some (V.ref d),some (V.ref lp),some (V.str (tx n)),some (V.ref l),some (V.ref t),S])
     ⟨sm.trans s2,a5,c1.mono λ_ _ _ _ h=>h.2,λa Z=>?_,K5 _,⟨xs,s2 _ _ o,by rw[C];simp,⋯⟩,_,rfl⟩ (λj σ L _ h=>aN.of h.2.1) ?_ ?_
    ·obtain⟨j,hj⟩:=List.mem_iff_getElem?.mp Z
     obtain⟨y,_,O⟩:=c1.get hj;exact λe=>by have:=O.1;rw[e,o]at this;cases this
    ·rintro j x0 σ L hx ⟨z,U,r,G,_,⟨M,B,J,a4⟩,S,rfl⟩
     rw[KG]at hx;obtain⟨wa,a7,rfl⟩:=K8.mp hx;obtain⟨g,R,c6⟩:=r.get a7;have hj:=(KA.mp a7).1;rw[q0E,R,List.filterMap_append,<- Ld,<- J];obtain⟨bs,Y,hA⟩:=c6;have ya5:=r.1;have hbl:bs.length<=2:=by rw[hA.1];exact Dg I.k4 R
     have hz:=xN hA.1;have d3:=ud (aH tb) g x.2.c;have hm:∀(k:Nat) y,(bs.zip g)[k]?=some y->bD L y.1 y.2:=λk y O=>by
      obtain⟨h1,h2⟩:=List.getElem?_zip_eq_some.mp O;obtain⟨y',c4,hk⟩:=hA.get h1;rw[c4]at h2;cases h2;exact hk
     ext;refine⟨⟨_,aN.of Y⟩,?_⟩;have c2:∀u,aD L u->aN K u wa ((bs.zip g).map λx=>V.ref x.1):=λu s=>by rw[hz];exact aN.of (s _ _ Y)
     have a3:(bs.zip g).length<=1000000:=by rw[q0N];omega
     have c0:=BL z hd;refine dI (as:=bs.zip g) (emb:=λx=>V.ref x.1) (f:=λx=>some (V.bl (aH tb x.2).isSome)) (λσ=>∃x,σ=[x,some (V.ref d)]) ⟨_,rfl⟩ c2 a3 ?_ ?_
     ·rintro k y O σ u N1 N0 ⟨x0,rfl⟩ s k1 k0
      ext;refine⟨_,yo (BL s c0) (s _ _ (hm k y O)),?_⟩;rw[Option.isSome_map];exact k1 _ _ _ rfl s ⟨_,rfl⟩
     intro H4 s4 l4 d2;rw[v6 (λk=>V.bl (aH tb k).isSome) hA.1];generalize z0:aE H4 l4 _=H5;obtain⟨s5,e5⟩:=dN d2 z0;have m:=s4.trans s5;have a0:=z.trans m;have W5:aW iz H5 ws (bR x p):=r.mono λ_ _ _ _ h=>ib h m;refine⟨g.map λk=>(aH tb k).isSome,by rw[KS];exact aN.of e5,?_⟩;have d4:((g.map λk=>(aH tb k).isSome).all id)=g.all λk=>(aH tb k).isSome:=by rw[List.all_map];rfl
     rw[d4];rw[show(some g).toList.filterMap (λw=>bS (aH tb) x.2.c w)=(bS (aH tb) x.2.c g).toList by
      show List.filterMap _ [g]=_;cases h:bS (aH tb) x.2.c g<;>simp[h]]
     rw[d3]
     by_cases Z:(g.all λk=>(aH tb k).isSome)=true
     ·rw[q07 Z,q07 Z]
      refine⟨.inl ⟨rfl,_,aN.of (m _ _ B)⟩,_,dO.of (m _ _ (z _ _ (hR.2.2 i t x ht D))),_,r2,⟨_,aN.of (m _ _ Y)⟩,?_⟩;refine dI (as:=bs.zip g) (emb:=λx=>V.ref x.1) (f:=λx=>some (V.int ((aH tb x.2).getD 0))) (λσ=>∃x,σ=[x,some (V.ref d)]) ⟨_,rfl⟩ (λu s=>c2 _ (m.trans s)) a3 ?_ ?_
      ·rintro k y O σ u N1 N0 ⟨x0,rfl⟩ s k1 k0
       have c3:y.2∈g:=(List.of_mem_zip (KH O)).2;obtain⟨v,hv⟩:=Option.isSome_iff_exists.mp (Ln.mp Z y.2 c3);have b4:=yo (BL (m.trans s) c0) ((m.trans s) _ _ (hm k y O));rw[hv]at b4;ext;refine⟨_,b4,k1 _ _ _ ?_ s ⟨_,rfl⟩⟩;rw[hv];rfl
      intro H6 s6 l6 d1;rw[v6 (λk=>V.int ((aH tb k).getD 0)) hA.1];generalize z0:aE H6 l6 _=H7;obtain⟨s7,e7⟩:=dN d1 z0;have T:=s6.trans s7;have a2:=m.trans T;have h7:=a2 _ _ B;refine⟨g.map λk=>(aH tb k).getD 0,by rw[KS];exact aN.of e7,_,rfl,_,h7,by rw[KD];exact aR ⋯,bz (a0.trans T) hl,by rw[av b0];exact a2 _ _ U,W5.mono λb y hb _ h=>mY (ib h T) h7 (G b hb),G,hj,M++[x.2.c+(g.map λk=>(aH tb k).getD 0).sum],by rw[af,KQ];rfl,rfl,by rw[K3];simp;omega⟩
     ·rw[q06 Z,q06 Z]
      exact⟨a0,m _ _ U,W5,G,hj,M,m _ _ B,by simp,⋯⟩
    ·rintro σ L ⟨z,U,r,G,_,⟨M,B,J,a4⟩,S,rfl⟩
     rw[KD,r.1,Lf]at J;rw[KD]at a4;exact⟨z,hi,⟨M,B,by rw[a8,q07 e];exact J,by have:=r.1;omega⟩,_,_,rfl⟩
   ·rw[q06 (λh=>e (tx_inj (by injection h)))]
    refine⟨sm,hi,xs,o,?_,⋯⟩;rw[a8,q06 e,Lc];exact C
  ·rintro σ u ⟨sm,_,⟨xs,o,C,c5⟩,x5,S,rfl⟩
   rw[KD,c7,Lf]at C;refine h1 _ _ ?_;ext;exact⟨xs,aN.of o,λzs pe pw l2 b3=>q l2 zs _ (sm.free b3) af ⟨C▸pe,pw⟩ (sm.trans (ao b3))⟩
theorem Dy{p:aL}{st:LA}{rs:Yaa}(hst:st∈p)(hr:∀r∈rs,iQ p sg r):∃nms:List (List Nat),(cr (tx st) rs).map (·.1)=nms.map tx/\(∀x∈rs,x.2.n∈nms)/\nms.length<=p.length/\∀n∈nms,n∈p:=by
 have o:∀z∈(cr (tx st) rs).map (·.1),z∈p.map tx:=λz a=>by
  rcases(kn _ _ _).mp a with e | ⟨q,j,e⟩
  ·rw[e];exact List.mem_map_of_mem hst
  ·unfold FE at j
   obtain⟨r,d,rfl⟩:=Lm.mp j;have R:=hr r d;rcases e with e | e
   ·rw[e];exact List.mem_map_of_mem R.n
   ·obtain⟨y,b,rfl⟩:=Lm.mp e
    refine List.mem_map_of_mem ?_;obtain⟨k,v⟩:=r;have w:y=v.o1\/y=v.o2:=by
     rcases eM R.good.k4 with rfl | rfl | rfl | rfl
     ·exact q0Q b List.not_mem_nil
     ·simpa[cC]using b
     ·simpa[cC]using b
     ·exact .inl (by simpa[cC]using b)
    rcases w with rfl | rfl
    ·exact R.o1
    ·exact R.o2
 have g:=(lR (tx st) _ rs rfl).nd;have i:∀x∈rs,tx x.2.n∈(cr (tx st) rs).map (·.1):=λx c=>(kn _ _ _).mpr (.inr ⟨_,List.mem_map_of_mem c,.inl rfl⟩);have l:=ThM.nd_len g o;rw[KD (as:=p)]at l;generalize(cr (tx st) rs).map (·.1)=ks at *;have u:∀z∈ks,tx z.cps.toList=z/\z.cps.toList∈p:=λz a=>by
  obtain⟨m,B,rfl⟩:=Lm.mp (o z a);rw[cX];exact⟨rfl,B⟩
 refine⟨ks.map λz=>z.cps.toList,?_,λx c=>Lm.mpr ⟨_,i x c,cX _⟩,by rw[KD];exact l,λn g=>?_⟩
 ·rw[KS]
  exact((q0K (λz a=>(u z a).1)).trans (List.map_id' ks)).symm
 ·obtain⟨z,a,rfl⟩:=Lm.mp g
  exact(u z a).2
theorem pA{q:aL}{u:Int}:u∈eX T rs q n↔∃x∈rs,x.2.n=n/\∃w∈bR x q,bS T x.2.c w=some u:=by
 unfold eX;rw[List.mem_flatMap]
 constructor
 ·rintro⟨x,hx,h⟩
  split at h
  ·rename_i e
   obtain⟨w,hw,e2⟩:=List.mem_filterMap.mp h;exact⟨x,hx,e,w,hw,e2⟩
  ·exact nomatch h
 ·rintro⟨x,hx,e,w,hw,e2⟩
  refine⟨x,hx,?_⟩;rw[q07 e];exact List.mem_filterMap.mpr ⟨w,hw,e2⟩
theorem xy(hp:aL.rect p r c)(h:ba p r c q)(hq:aL.rect q r' c')(hz:ba q r' c' z):ba p r c z:=by
 obtain⟨t,l,b,x,u,h1,h2,e,d,a,rfl⟩:=hz;exact(h.cut hp hq h1 h2 e d).turned hp a
theorem mI.part{tb':Tb}(E:iE rs nms p r c)(E':iE rs nms q r' c')(hs:ba p r c q)(h:mI rs nms p r c tb)(h':mI rs nms q r' c' tb')(hz:ba q r' c' z)(n:LA):aH tb (bu z,n)=aH tb' (bu z,n):=by
 have a:=xy E.hp hs E'.hp hz;cases e:aH tb (bu z,n) with
 |some v=>
  obtain⟨v',j,d⟩:=h'.min E' hz (h.key _ _ e).2.2.1;obtain⟨g,i,b⟩:=h.min E a (h'.key _ _ d).2.2.1;rw[e]at b;cases b;rw[d,Int.le_antisymm i j]
 |none=>
  cases d:aH tb' (bu z,n) with
  |none=>rfl
  |some v=>
   obtain⟨g,_,b⟩:=h.min E a (h'.key _ _ d).2.2.1;rw[e]at b;cases b
theorem mI.same{tb':Tb}(E:iE rs nms p r c)(E':iE rs nms q r' c')(hs:ba p r c q)(hs':ba q r' c' p)(h:mI rs nms p r c tb)(h':mI rs nms q r' c' tb')(k:Ky):aH tb' k=aH tb k:=by
 cases e:aH tb k with
 |some v=>
  obtain⟨⟨z,a,b⟩,_⟩:=h.key _ _ e;have:=h.part E E' hs h' (xy E'.hp hs' E.hp a) k.2;rw[<- b]at this;rw[<- e];exact this.symm
 |none=>
  cases d:aH tb' k with
  |none=>rfl
  |some v=>
   obtain⟨⟨z,a,b⟩,_⟩:=h'.key _ _ d;have:=h.part E E' hs h' a k.2;rw[<- b]at this;rw[<- e,<- d];exact this.symm
theorem xw{α:Type}[DecidableEq α]:∀{ks ms:List α},ks.Nodup->(∀z∈ks,z∈ms)->ks.length<=ms.length
 | [],ms,_,_=>K5 _
 |k::ks,ms,nd,h=>by
  have hk:=h k q0B;rw[q0d]at nd;have:=xw (ks:=ks) (ms:=ms.erase k) nd.2 (λz hz=>(List.mem_erase_of_ne (λe:z=k=>nd.1 (by rw[<- e];exact hz))).mpr (h z (KW _ hz)));rw[List.length_erase_of_mem hk]at this;have:=List.length_pos_of_mem hk;rw[KP];omega
theorem Fy{tb tb':Tb}(ha:Rd H a (.dT (tb.map dj)))(hb:Rd H b (.dT (tb'.map dj)))(n1:(tb.map (·.1)).Nodup)(n2:(tb'.map (·.1)).Nodup)(h:∀k,aH tb k=aH tb' k):GK H a b (tb.map dj) (tb'.map dj):=by
 have c:∀{t1 t2:Tb},(t1.map (·.1)).Nodup->(∀k,aH t1 k=aH t2 k)->∀e∈t1,e∈t2:=fun{t1 t2} nd he e d=>by
  have:=ny nd (k:=e.1) (v:=e.2) d;rw[he]at this;exact BX this
 have len:∀{t1 t2:Tb},(t1.map (·.1)).Nodup->(∀k,aH t1 k=aH t2 k)->t1.length<=t2.length:=fun{t1 t2} nd he=>by
  have:=xw nd (ms:=t2.map (·.1)) λz g=>by
   obtain⟨e,d,rfl⟩:=Lm.mp g;exact List.mem_map_of_mem (c nd he e d)
  rw[KD,KD]at this;exact this
 refine⟨ha,hb,by rw[KD,KD];exact Nat.le_antisymm (len n1 h) (len n2 λk=>(h k).symm),λi k v e=>?_⟩;rw[KG]at e;obtain⟨x,l,n⟩:=K8.mp e;cases n;obtain⟨j,m⟩:=List.getElem?_of_mem (c n1 h x (KH l));exact⟨rfl,j,by rw[KG,m];rfl⟩
theorem Du{r:LA}{j:Nat}(h:j<r.length):iG (au (ce r)) (j:Int)=some (V.str (tx [r[j]])):=by
 refine bI ?_;unfold au ce;rw[KS,KG,Kz h]
 rfl
theorem qE{T:Ky->Option Int}{B:Int}(hT:∀k v,T k=some v->1<=v/\v<=B):∀{w:List Ky} {c u:Int},bS T c w=some u->c<=u/\u<=c+(w.length:Int)*B
 | [],c,u,h=>by cases h;simp
 |k::w,c,u,h=>by
  have h':(match T k with | none=>none | some v=>bS T (c+v) w)=some u:=h;cases e:T k with
  |none=>rw[e]at h';cases h'
  |some v=>
   rw[e]at h';have g:=hT k v e;have ih:=qE hT (w:=w) h';rw[KP]
   push_cast
   rw[Int.add_mul];omega
structure Ag(rs:Yaa)(p:List (List Nat))(q:aL)(r c:Nat)(tb:Tb):Prop where
 nd:(tb.map (·.1)).Nodup
 key:∀k v,aH tb k=some v->(∃z,ba q r c z/\k.1=bu z)/\k.2∈p/\Dv rs k v/\1<=v/\v<=9*3 ^ tb.length
theorem Ag.nil:Ag rs p q r c []:=⟨List.nodup_nil,λk v h=>nomatch h⟩
theorem Gq(n:Nat):(1:Int)<=3 ^ n:=Int.pow_pos (show(0:Int)<3 by omega)
theorem Ag.put{n:LA}{u:Int}(hq:rect q r c)(hns:bQ q)(S:Ag rs p q r c tb)(gd:∀x∈rs,kF x)(hz:ba q r c z)(hn:n∈p)(hu:u∈eX (aH tb) rs z n)(hlt:∀v,aH tb (bu z,n)=some v->u<v):Ag rs p q r c (kb tb (bu z,n) u):=by
 obtain⟨x,i,rfl,w,j,e⟩:=pA.mp hu;have cb:=qE (λk v h=>⟨(S.key k v h).2.2.2.1,(S.key k v h).2.2.2.2⟩) e;have l:=(gd x i).good;have b:(w.length:Int)<=2:=by
  rcases kN j with h | ⟨k,h⟩ | ⟨k1,k2,h⟩<;>rw[h]<;>simp
 have p3:=Gq tb.length;have hle:u<=x.2.c+2*(9*3 ^ tb.length):=by
  have:(w.length:Int)*(9*3 ^ tb.length)<=2*(9*3 ^ tb.length):=Int.mul_le_mul_of_nonneg_right b ⋯;omega
 obtain⟨z1,z2,o,_⟩:=hz.rect hq;have a:xr z:=⟨λh=>by have:=o.1;rw[h]at this;simp at this;omega,hz.ns hq hns⟩;have g:=xK i a j e λk _ v h=>(S.key k v h).2.2.1;refine⟨yj S.nd,λk v h=>?_⟩;have hl:(3:Int) ^ tb.length<=3 ^ (kb tb (bu z,x.2.n) u).length:=by
  rw[oM];split
  ·exact Int.le_refl _
  ·rw[Int.pow_succ];omega
 rw[gC]at h
 by_cases d:k=(bu z,x.2.n)
 ·rw[q07 d]at h
  cases h;subst d;refine⟨⟨z,hz,rfl⟩,hn,g,by have:=l.c1;omega,?_⟩;have h9:=l.c9;rw[oM];cases m:aH tb (bu z,x.2.n) with
  |some v=>
   have g1:=hlt v m;have g2:=(S.key _ _ m).2.2.2.2;rw[q07 (by simp)];omega
  |none=>
   rw[q06 (by simp),Int.pow_succ];omega
 ·rw[q06 d]at h
  obtain⟨h1,h2,B,y,h5⟩:=S.key k v h;exact⟨h1,h2,B,y,⋯⟩
theorem Ag.done(E:iE rs nms q r c)(S:Ag rs p q r c tb)(hl:tb.length<=9900000)(h:∀z,ba q r c z->∀n∈nms,∀u∈eX (aH tb) rs z n,∃v,v<=u/\aH tb (bu z,n)=some v):mI rs nms q r c tb:=by
 refine⟨S.nd,λk v e=>?_,λz d x a w g u e=>h z d _ (E.nm x a) u (pA.mpr ⟨x,a,rfl,w,g,e⟩),hl⟩;obtain⟨h1,_,b,i,_⟩:=S.key k v e;refine⟨h1,?_,b,i⟩;cases b with
 |leaf hr _ _=>exact E.nm _ hr
 |one hr _ _ _=>exact E.nm _ hr
 |two hr _ _ _ _=>exact E.nm _ hr
def oG(qs:List aL)(p:List (List Nat)):List Ky:=qs.flatMap λz=>p.map λn=>(bu z,n)
theorem Ag.len{qs:List aL}(S:Ag rs p q r c tb)(hqs:∀z,ba q r c z->z∈qs):tb.length<=(oG qs p).length:=by
 have:=xw S.nd (ms:=oG qs p) λk d=>by
  obtain⟨e,g,rfl⟩:=Lm.mp d;obtain⟨⟨z,a,i⟩,b,_⟩:=S.key e.1 e.2 (ny S.nd g);exact List.mem_flatMap.mpr ⟨z,hqs z a,Lm.mpr ⟨e.1.2,b,by rw[<- i]⟩⟩
 rwa [KD]at this
def BG(ks:List Ky)(B:Nat)(kvs:List (List cL×V)):Nat:=(ks.map λk=>match dL kvs (gM k) with
 |some (.int v)=>v.toNat
 |_=>B).sum
theorem AB(ks:List Ky)(B:Nat)(tb:Tb):BG ks B (tb.map dj)=(ks.map λk=>match aH tb k with
 |some v=>v.toNat
 |none=>B).sum:=by
 unfold BG
 congr 1
 refine q0K λk _=>?_;rw[gI];cases aH tb k<;>rfl
theorem Bu{α:Type}{f g:α->Nat}:∀{l:List α} {a:α},(∀x∈l,f x<=g x)->a∈l->f a<g a->(l.map f).sum<(l.map g).sum
 |x::l,a,h,ha,hl=>by
  have h1:=h x q0B;have h2:(l.map f).sum<=(l.map g).sum:=mU λy hy=>h y (KW _ hy);rw[K_,K_,List.sum_cons,List.sum_cons];rcases KU.mp ha with rfl | ha
  ·omega
  ·have:=Bu (λy hy=>h y (KW _ hy)) ha hl
   omega
theorem CJ{ks:List Ky}{B:Nat}{k:Ky}{u:Int}(hk:k∈ks)(h1:1<=u)(hB:u<B)(hlt:∀v,aH tb k=some v->u<v):BG ks B ((kb tb k u).map dj)<BG ks B (tb.map dj):=by
 rw[AB,AB];refine Bu (λx _=>?_) hk ?_
 ·rw[gC]
  by_cases e:x=k
  ·rw[q07 e,e]
   cases a:aH tb k with
   |some v=>have:=hlt v a;show u.toNat<=v.toNat;omega
   |none=>show u.toNat<=B;omega
  ·rw[q06 e];exact K4 _
 ·rw[gC,q07 rfl]
  cases a:aH tb k with
  |some v=>have:=hlt v a;show u.toNat<v.toNat;omega
  |none=>show u.toNat<B;omega
def FI(rs:Yaa)(tb:Tb)(z:aL)(n:LA):Prop:=∀u∈eX (aH tb) rs z n,∃v,v<=u/\aH tb (bu z,n)=some v
structure HA(rs:Yaa)(p:List (List Nat))(q:aL)(r c:Nat)(zs:List AP)(ks:List Ky)(B:Nat)(tb0 tb:Tb)(ag:Bool)(i j:Nat):Prop where
 st:Ag rs p q r c tb
 le:BG ks B (tb.map dj)<=BG ks B (tb0.map dj)
 lt:ag=true->BG ks B (tb.map dj)<BG ks B (tb0.map dj)
 no:ag=false->tb=tb0/\∀i' j' z n,(i'<i\/i'=i/\j'<j)->zs[i']?=some z->p[j']?=some n->FI rs tb z.2 n
structure D'(d ds:Addr)(zs:List AP)(H1 H':Hp)(tb:Tb):Prop where
 tab:cv H' d tb
 f2:F2 d ds H1 H'
def HS(σ:St):Nat:=match σ with
 | [_,_,_,_,some (.bl true),_,_,_]=>1
 |_=>0
def GC(ks:List Ky)(B:Nat)(H:Hp)(d:Addr):Nat:=match H d with
 |some (.dT kvs)=>BG ks B kvs
 |_=>0
theorem xX{ks:List Ky}(h:cv H d tb):GC ks B H d=BG ks B (tb.map dj):=by
 unfold GC;rw[show H d=some (.dT (tb.map dj)) from h]
theorem EN{ds:Addr}{F:List (cL×V)->Obj->Hp->Prop}(hR:Rd H ds (.dK kvs))(main:∀o H3,H3 ds=some (.frz o (.dK kvs))->(∀b u,b≠ds->H b=some u->H3 b=some u)->F kvs o H3) :
  ∃x,(H ds=some (.dK x)/\∀o,F x o (aE H ds (.frz o (.dK x))))\/∃o,H ds=some (.frz o (.dK x))/\F x o H:=by
 refine⟨kvs,?_⟩;rcases hR with h | ⟨o,h⟩
 ·exact .inl ⟨h,λo=>main o _ af λb u a e=>by rw[av a];exact e⟩
 ·exact .inr ⟨o,h,main o H h λb u _ e=>e⟩
theorem vb:∀{zs:List AP},(zs.map (·.2)).Nodup->(∀z∈zs,xr z.2)->∀z∈zs,dL (zs.map eU) (.inr (tx (bu z.2)))=some (.ref z.1)
 | [],_,_,z,hz=>nomatch hz
 |y::zs,nd,ok,z,hz=>by
  rw[K_,q0d]at nd;rw[K_];rcases KU.mp hz with rfl | h
  ·rw[fK (show(eU z).1=Sum.inr (tx (bu z.2)) from rfl)];rfl
  ·rw[fP (λq=>nd.1 (by rw[xr.inj (ok y q0B) (ok z hz) (SnM.tx_inj (Sum.inr.inj q))];exact List.mem_map_of_mem h))]
   exact vb nd.2 (λz hz=>ok z (KW _ hz)) z h
theorem D'.up{ds:Addr}{H1:Hp}(h:D' d ds zs H1 H tb)(s:aD H H'):D' d ds zs H1 H' tb:=⟨h.tab.up s,λb o h1 h2 e=>s _ _ (h.f2 b o h1 h2 e)⟩
theorem q9(p:List (List Nat)):∀qs:List aL,(oG qs p).length=qs.length*p.length
 | []=>by simp[oG]
 |q::qs=>by
  have:=q9 p qs;unfold oG at this ⊢;rw[List.flatMap_cons,K3,this,KD,KP,Nat.succ_mul,Nat.add_comm]
theorem Dm{a b:Nat}(h:a<=b):(3:Int) ^ a<=3 ^ b:=by
 induction h with
 |refl=>exact Int.le_refl _
 | @step m _ ih=>rw[Int.pow_succ];have:=Gq m;omega
abbrev iS:Stmt:=fS 73
inductive kr(K:W.Frag)(vs:List V)(H:Hp)(Q:VK)(_E:XK):Prop
 |mk (lr ln ds:Addr) (ts:LD) (rs:Yaa) (nms p:List (List Nat)) (q:aL) (r c:Nat) (zs:List AP) (_:vs=[.ref lr,.ref ln,.ref ds]) (_:cE H lr ts rs) (_:rs.length<=24) (_:H ln=some (.lst (au p))) (_:p.length<=8) (_:(∀n∈nms,n∈p)) (_:iE rs nms q r c) (_:H ds=some (.dK (zs.map eU))) (_:(∀z∈zs,H z.1=some (.lst (au z.2)))) (_:(zs.map (·.2)).Nodup) (_:(∀z,z∈zs.map (·.2)↔ba q r c z)) (_:zs.length<=24000) (_:∀d tb H',cv H' d tb->mI rs nms q r c tb->bp ds H H'->Q (.ref d) H')
theorem tm:aI ["_law_rules","_law_names_here","_law_seen_here","_law_told","_law_again","_law_text_here","_law_name","_law_costs_here"] ["_law_rules","_law_names_here","_law_seen_here"] (ax iS):=by walk_at "c"
theorem rF{f:Addr}(F:dw K "_law_settled" "_law_settled" iS f fd)(nb:NB mg)(zAb:↑dP 3 "_law_costs" ["_law_rules","_law_told","_law_picture","_law_name"] (nJ K)):↑bC 4 f fd ["_law_rules","_law_names_here","_law_seen_here"] (kr K):=by
 have sc:=tm;walk_at "f"
 ·obtain⟨lr,ln,I,ts,rs,nms,p,qq,r,c,l,rfl,hR,e6,U,p8,g0,L,a1,f0,f1,J,f3,q⟩:=h
  have O:=hr.units;refine⟨_,(ae (q01 3 sc.nd uy)
   (ae (q01 4 sc.nd iA)
   (ae (vp PassesOwn.never (fb (ar 4) λ_=>rfl) (ae (q01 4 sc.nd iA)
   (ai (aS PassesOwn.never rfl (FM (ar 2)) (q02 5 sc.nd)
   (ai (aS PassesOwn.never rfl (bG (ar 1)) (q02 6 sc.nd)
   (ae (q01 7 sc.nd (q00 zAb hr (ac (ar 0) (ac (ar 3) (ac (i8 (Lk (Lo (by decide:1<=64) _) O) (ar 2) (ar 5) (λ_ _=>rfl)) (ac (ar 6) ad))))))
   (ai (bX (PW.pt (gw (aQ (rY O) (ar 7) (bw ad) (a_ _)) (fu (aQ (bE.m0 qQ) (aY bd (ar 7) aj (λ_ _=>rfl)) (Bd (Lk (Lo (by decide:1<=64) _) O) (ar 3) (bO (ac (ar 5) (ac (ar 6) ad))) (ay (bE.m0 bK) (aY bd (ar 7) aj (λ_ _=>rfl)) aj) ⟨rfl,rfl,rfl,rfl⟩) (a_ _)))))
   (ae (kt (Lk (Lo (by decide:1<=64) _) O) (ar 3) (bO (ac (ar 5) (ac (ar 6) ad))) (aY bd (ar 7) aj (λ_ _=>rfl)) rfl)
   (ai (q01 4 sc.nd iA)))
   bj)))))))))
   (ai (aP (ar 3)))))),?_⟩
  symm;refine λd hd=>h1 _ _ ?_;clear h1;generalize z0:aE H d _=H1;obtain⟨s1,e1⟩:=dN hd z0;symm;refine h1 _ _ ?_;clear h1;refine aq λN1 h1=>?_;refine mv λtw d6=>?_;have f9:∀z∈l,xr z.2:=λz G=>by
   have hs:=(J z.2).mp (List.mem_map_of_mem G);obtain⟨w1,w2,a6,b4,_⟩:=hs.rect L.hp;exact⟨λh=>by have:=a6.1;rw[h]at this;simp at this;omega,hs.ns L.hp L.ns⟩
  have d2:d≠I:=λz=>by rw[z,a1]at hd;cases hd
  obtain⟨ks,c9⟩:∃ks,ks=oG (l.map (·.2)) p:=⟨_,rfl⟩;have hkl:(oG (l.map (·.2)) p).length<=24000*8:=by rw[q9,KD];exact Nat.mul_le_mul f3 p8
  obtain⟨B,hB⟩:∃B:Nat,(B:Int)=9*3 ^ (ks.length+1)+1:=⟨9*3 ^ (ks.length+1)+1,by push_cast;rfl⟩;refine Bb (λσ H'=>∃tb g x5 S R,σ=[some (V.ref lr),some (V.ref ln),some (V.ref I),some (V.ref d),some (V.bl g),x5,S,R]/\Ag rs p qq r c tb/\D' d I l H1 H' tb/\Rd H' I (.dK (l.map eU))/\(g=false->∀z∈l,∀n∈p,FI rs tb z.2 n)) (λσ H'=>2*GC ks B H' d+HS σ) ⟨[],true,_,_,_,rfl,Ag.nil,⟨e1,λb o _ _ h=>h⟩,.inl (s1 _ _ a1),λh=>nomatch h⟩ ?_ ?_
  ·rintro σ H2 ⟨C,g,x5,S,R,rfl,S0,SH,d5,c3⟩
   ext;refine cD (λa8=>?_) (λa8=>?_)
   ·subst a8
    rw[d6];clear h1 d6;have c2:2*GC ks B H2 d+HS [some (V.ref lr),some (V.ref ln),some (V.ref I),some (V.ref d),some (V.bl true),x5,S,R]=2*BG ks B (C.map dj)+1:=by rw[xX SH.tab];rfl
    rw[c2];clear c2;ac_nf;refine h2 _ _ ?_;clear h2;ext;refine EN (F:=λx o H3=>rK (yS I o x) _ _ _ _ H3) d5 λo H3 g9 k3=>?_;have h4:D' d I l H1 H3 C:=⟨k3 _ _ d2 SH.tab,λb u h1 h2 h=>k3 _ _ h2 (SH.f2 b u h1 h2 h)⟩;clear SH d5 k3 c3;refine C_ (λi σ H'=>∃tb g x5 S R,σ=[some (V.ref lr),some (V.ref ln),some (V.ref I),some (V.ref d),some (V.bl g),x5,S,R]/\HA rs p qq r c l ks B C tb g i 0/\D' d I l H1 H' tb/\H' I=some (.frz o (.dK (l.map eU)))) ⟨C,false,_,_,_,rfl,⟨S0,K4 _,(λh=>nomatch h),λ_=>⟨rfl,λi' j' z n h=>by omega⟩⟩,h4,g9⟩ (λi σ H' _ h=>by obtain⟨_,_,_,_,_,_,_,_,h⟩:=h;exact h) ?_ ?_
    ·rintro i kv σ H4 c7 ⟨tb,g,x5,S,R,rfl,a,M,a3⟩
     rw[KG]at c7;obtain⟨z,G,rfl⟩:=K8.mp c7;have c0:∀{H':Hp} {tb':Tb},D' d I l H1 H' tb'->H' ln=some (.lst (au p)):=fun{H' tb'} h=>h.f2 _ _ (λz=>by rw[z,hd]at U;cases U) (λz=>by rw[z,a1]at U;cases U) (s1 _ _ U);ext;refine⟨⟨_,aN.of (c0 M)⟩,?_⟩;refine bW (xs:=au p) (λj σ H'=>∃tb g S R,σ=[some (V.ref lr),some (V.ref ln),some (V.ref I),some (V.ref d),some (V.bl g),some (kV (eU z).1),S,R]/\HA rs p qq r c l ks B C tb g i j/\D' d I l H1 H' tb/\H' I=some (.frz o (.dK (l.map eU)))) ⟨tb,g,_,_,rfl,a,M,a3⟩ (λj σ H' _ h=>by obtain⟨_,_,_,_,_,_,h,_⟩:=h;exact aN.of (c0 h)) ?_ ?_
     ·clear a M a3
      rintro j y σ H5 hy ⟨tb,g,S,R,rfl,a,Z,a2⟩;have hj:j<p.length:=by have:=(KA.mp hy).1;rwa [am]at this
      rw[br hj]at hy;cases hy;have a0:p[j]?=some p[j]:=Kz hj;generalize p[j]=n at a0;have kp:∀{b:Addr} {u:HO},H b=some u->(∀m,u≠.dK m)->H5 b=some u:=fun{b u} h hne=>Z.f2 _ _ (λz=>by rw[z,hd]at h;cases h) (λz=>by rw[z,a1]at h;cases h;exact hne _ rfl) (s1 _ _ h);have h0:cE H5 lr ts rs:=⟨kp hR.1 (by intro m e;cases e),hR.2.1,λi t x e1 e2=>kp (hR.2.2 i t x e1 e2) (by intro m e;cases e)⟩;have D:=KH G;have f5:H5 z.1=some (.lst (au z.2)):=kp (f0 z D) (by intro m e;cases e);have a5:=(J z.2).mp (List.mem_map_of_mem D);obtain⟨w1,w2,a6,b4,e5,w1m,w2m⟩:=a5.rect L.hp;have r6:=L.r6;have c6:=L.c6;have f4:ii z.2 w1 w2:=⟨a6,b4,⋯,e5,⋯,a5.ns L.hp L.ns⟩;ac_nf;refine⟨_,.inl ⟨_,_,.inr ⟨o,a2⟩,rfl,(vb f1 f9 z D).symm⟩,lr,d,z.1,ts,rs,tb,z.2,w1,w2,n,rfl,h0,L.gd,e6,.inl Z.tab,f5,f4,λl7 ys H6 hl7 e7 a7 s6=>h2 _ _ ?_⟩;clear h2;have h3:=Z.up s6;have g6:=s6 _ _ a2;refine oj λtb1 tb2 d7 a9=>?_;ext;refine⟨K5 _,λle c4=>?_⟩;generalize z1:aE H6 le _=H7;obtain⟨s7,e3⟩:=dN c4 z1;have b3:=h3.up s7;have d4:=s7 _ _ g6;have Y:=s7 _ _ e7;have low:(∀u∈ys,∃v,v<=u/\aH tb (bu z.2,n)=some v)->HA rs p qq r c l ks B C tb g i (j+1):=λhl=>⟨a.st,a.le,a.lt,λh=>⟨(a.no h).1,λi' j' z' n' hh g1 g2=>by
       by_cases g5:i'=i/\j'=j
       ·obtain⟨rfl,rfl⟩:=g5
        rw[G]at g1;cases g1
        rw[a0]at g2;cases g2
        exact λu O=>hl u (a7.1.mem_iff.mpr O)
       ·exact(a.no h).2 i' j' z' n' ⋯ g1 g2⟩⟩
      cases ys with
      |nil=>
       refine .inl ⟨[],by unfold Dt.deps;omega,.inl ⟨?_,?_⟩,_,rfl,?_⟩
       ·unfold kK;exact⟨l7,_,rfl,aN.of Y,by unfold fQ;rfl⟩
       ·unfold kK;exact⟨le,_,rfl,aN.of e3,by unfold fQ;rfl⟩
       ·rw[q06 (by simp),a9]
        ext;exact⟨tb,low (λu O=>nomatch O),b3,d4⟩
      |cons y ys=>
       refine .inr ⟨l7,le,_,_,rfl,rfl,aN.of Y,aN.of e3,by simp,_,rfl,?_⟩;rw[q07 rfl];have b0:iG ((y::ys).map V.int) 0=some (V.int y):=(show iG _ ((0:Nat):Int)=_ from bI rfl);refine⟨_,aN.of Y,_,b0,.inr ⟨_,.inl b3.tab⟩,az (by decide),λtp f8=>?_⟩;generalize z2:aE H7 tp _=H8;obtain⟨s8,(e8:H8 tp=some (.tup (wx (bu z.2,n))))⟩:=dN f8 z2;have b2:=b3.up s8;have d3:=s8 _ _ d4;refine⟨_,aN.of (s8 _ _ Y),_,b0,_,rfl,_,jr.t (k:=gM (bu z.2,n)) b2.tab e8,_,rfl,?_⟩;rw[gI];have f6:y∈eX (aH tb) rs z.2 n:=a7.1.mem_iff.mp q0B;have f7:∀u∈y::ys,y<=u:=λu O=>(KU.mp O).elim (λe=>Int.le_of_eq e.symm) ((List.pairwise_cons.mp a7.2).1 u)
       by_cases T:∀v,aH tb (bu z.2,n)=some v->y<v
       ·obtain⟨x,ex,hx⟩:∃x,((aH tb (bu z.2,n)).map V.int).getD (V.int (y+1))=V.int x/\y<x:=by
         cases e0:aH tb (bu z.2,n) with
         |none=>exact⟨y+1,rfl,⋯⟩
         |some v=>exact⟨v,rfl,T v e0⟩
        refine⟨x,ex,?_⟩;rw[q07 hx,d7];clear d7 a9 low;have b1:=a.st.put L.hp L.ns L.gd a5 (KH a0) f6 T;have hlk:=a.st.len λz G=>(J z).mpr G;have g3:(bu z.2,n)∈ks:=by rw[c9];exact List.mem_flatMap.mpr ⟨z.2,List.mem_map_of_mem D,Lm.mpr ⟨n,KH a0,rfl⟩⟩
        ext;refine⟨_,aN.of (s8 _ _ Y),_,b0,az (by decide),λb6 c1=>?_⟩;generalize z3:aE H8 b6 _=H9;obtain⟨s9,(e9:H9 b6=some (.tup (wx (bu z.2,n))))⟩:=dN c1 z3;have e4:=b2.up s9;have a4:=wJ.t (v:=.int y) (k:=gM (bu z.2,n)) e4.tab e9 (by rw[KD];exact aR ⋯);rw[vh]at a4;have ky:=b1.key (bu z.2,n) y (by rw[gC,q07 rfl]);have c5:=b1.len λz G=>(J z).mpr G;rw[<- c9]at c5;have p3:=Dm (K' c5 (Nat.le_succ _));have hmv:=CJ (B:=B) g3 ky.2.2.2.1 (by have:=ky.2.2.2.2;omega) T;have c4:=a.le;exact⟨_,a4,kb tb (bu z.2,n) y,⟨b1,⋯,λ_=>by omega,(λh=>nomatch h)⟩,⟨af,λb u h1 h2 h=>by rw[av h1];exact e4.f2 b u h1 h2 h⟩,by rw[av (Ne.symm d2)];exact s9 _ _ d3⟩
       ·obtain⟨v,e0,hv⟩:∃v,aH tb (bu z.2,n)=some v/\¬ y<v:=by
         cases e0:aH tb (bu z.2,n) with
         |none=>exact q0Q (λv h=>by rw[e0]at h;cases h) T
         |some v=>exact⟨v,rfl,λh=>T λv' h'=>by rw[e0]at h';cases h';exact h⟩
        rw[e0];refine⟨v,rfl,?_⟩;rw[q06 hv,a9];ext;exact⟨tb,low (λu O=>⟨v,by have:=f7 u O;omega,e0⟩),b2,d3⟩
     ·rintro σ H5 ⟨tb,g,S,R,rfl,a,Z,a2⟩
      rw[am]at a;refine⟨tb,g,_,_,_,rfl,⟨a.st,a.le,a.lt,λh=>⟨(a.no h).1,λi' j' z n hh e1 e2=>(a.no h).2 i' j' z n ?_ e1 e2⟩⟩,Z,a2⟩;have:=(KA.mp e2).1;omega
    ·rintro σ H4 ⟨tb,g,x5,S,R,rfl,a,M,a3⟩
     rw[KD]at a;refine⟨⟨tb,g,_,_,_,rfl,a.st,M,.inr ⟨o,a3⟩,λh z G n hn=>?_⟩,?_⟩
     ·obtain⟨i',d1⟩:=List.getElem?_of_mem G
      obtain⟨j',g4⟩:=List.getElem?_of_mem hn;exact(a.no h).2 i' j' z n (.inl (KA.mp d1).1) d1 g4
     ·rw[xX M.tab]
      cases g with
      |true=>have:=a.lt rfl;show 2*_+1<_;omega
      |false=>have:=a.le;show 2*_+0<_;omega
   ·obtain rfl:g=false:=by cases g;rfl;exact q0Q rfl a8
    refine h1 _ _ ?_;ext;refine q d C H2 SH.tab (S0.done L ?_ λz G n hn=>?_) λb o hb h=>SH.f2 b o (λz=>by rw[z,hd]at h;cases h) hb (s1 _ _ h)
    ·have g1:=S0.len λz G=>(J z).mpr G
     omega
    ·obtain⟨y,hy,rfl⟩:=Lm.mp ((J z).mpr G)
     exact c3 rfl y hy n (g0 n hn)
  ·rintro σ H Q Q' h hh
   unfold vD E3 at hh ⊢;generalize σ[4]?=o4 at hh ⊢;rcases o4 with _ | _ | v
   ·exact hh.elim
   ·exact hh.elim
   ·obtain⟨k,e1,e2⟩:=hh
    exact⟨k,e1,h _ _ e2⟩
abbrev qh:Stmt:=fS 74
inductive rG(K:W.Frag)(vs:List V)(H:Hp)(Q:VK)(_E:XK):Prop
 |mk (a:Addr) (ns:List Int) (_:vs=[.ref a]) (_:aN K H a (ns.map V.int)) (_:∀H',Q (.bl true) H')
theorem Fc:aI ["_law_script","_law_signs_here","_law_names_here","_law_cells","_law_rules","_law_trees","_law_more","_law_picture","_law_columns","_law_i","_law_grammar_here","_law_found"] ["_law_script"] (ax qh):=by walk_at "c"
theorem Ew{f:Addr}(F:dw K "law" "law" qh f fd)(nb:NB mg)(zha:↑dP 1 "_law_cell" ["_law_script","_law_k"] (lE K))(zBb:↑dP 1 "_law_signs" ["_law_cell_here"] n_)(zCb:↑dP 1 "_law_names" ["_law_cell_here"] pJ)(zDb:↑dP 2 "_law_grown" ["_law_cells","_law_names_here","_law_signs_here","_law_most"] (nq K))(zEb:↑dP 1 "_law_noise" ["_law_cells","_law_names_here","_law_signs_here"] nG)(zXb:↑dP 1 "_law_amid" ["_law_rules","_law_more","_law_cells"] rj)(zrb:↑dP 1 "_law_picked" ["_law_trees","_law_cell_here"] (md K))(zhb:↑dP 6 "_law_grammar" ["_law_signs_here","_law_start","_law_rules"] (kE R CG))(yaL:↑dP 10 "table_of" ["grammar","picture"] (lY K R CG))(zYb:↑dP 2 "_law_seen" ["_law_picture"] (qI K))(zFb:↑dP 2 "_law_table" ["_law_told"] n9)(zib:↑dP 4 "_law_settled" ["_law_rules","_law_names_here","_law_seen_here"] (kr K)):↑bC 11 f fd ["_law_script"] (rG K):=by
 have sc:=Fc;walk_at "f"
 ·obtain⟨a,ns,rfl,hS,q⟩:=h
  have hu:=hr.units;refine⟨_,(ae (aG (i:=1) sc.nd rfl (Or.inr rfl) (q00 zBb hr (ac (q00 zha hr (ac (ar 0) (cy ad))) ad)))
   (ae (q01 2 sc.nd (q00 zCb hr (ac (q00 zha hr (ac (ar 0) (cy ad))) ad)))
   (ae (fD (i:=3) ["_law_k"] [0] sc.nd rfl (Or.inl rfl) rfl  rfl (bP.of (by kernel_rfl)) (by kernel_rfl) (bL rfl nb.range (ac (ay (bE.m0 bK) aj (ay (bE.m1 aZ) (q00 zha hr (ac (ar 0) (cy ad))) aj)) ad))
    (λ_ _ _ _=>(aw (i:=0) (by show(["_law_k","_law_script"]:List Str).Nodup;decide +kernel) rfl (Or.inl rfl))) (λ_ _ _ _=>b9) (λ_ _ _ _=>(q00 zha hr (ac (ar 1) (ac (ay (bE.m0 bK) aj (ar 0)) ad)))))
   (ae (AS (q00 zDb hr (ac (ar 3) (ac (ar 2) (ac (ar 1) (cy ad))))) (ip (n:=2) rfl (bh (q02 4 sc.nd) (bh (q02 5 sc.nd) dD))))
   (ae (fD (i:=6) ["_law_k"] [0] sc.nd rfl (Or.inl rfl) rfl  rfl (bP.of (by kernel_rfl)) (by kernel_rfl) (bL rfl nb.range (ac (ay (bE.m1 aZ) (ay (bE.m1 bc) (q00 zha hr (ac (ar 0) (cy ad))) aj) aj) ad))
    (λ_ _ _ _=>(aw (i:=0) (by show(["_law_k","_law_script"]:List Str).Nodup;decide +kernel) rfl (Or.inl rfl))) (λ_ _ _ _=>b9) (λ_ _ _ _=>(q00 zha hr (ac (ar 1) (ac (ay (bE.m0 bK) aj (ar 0)) ad)))))
   (ae (q01 4 sc.nd (q00 zXb hr (ac (ar 4) (ac (q00 zEb hr (ac (ar 6) (ac (ar 2) (ac (ar 1) ad)))) (ac (ar 6) ad)))))
   (ae (q01 7 sc.nd (aY bV (q00 zrb hr (ac (ar 5) (ac (q00 zha hr (ac (ar 0) (cy ad))) ad))) aj (λ_ _=>rfl)))
   (ae (bX (aQ dz (ay (bE.m1 aZ) (ay (bE.m1 bc) (q00 zha hr (ac (ar 0) (cy ad))) aj) aj) aj (a_ _))
   (ae (q01 8 sc.nd (ay (bE.m0 bK) aj (ay (bE.m1 aZ) (q00 zha hr (ac (ar 0) (cy ad))) aj)))
   (ae (q01 7 sc.nd (bw ad))
   (ai (aS PassesOwn.never rfl (bL rfl nb.range (ac (ay (bE.m0 bK) aj (ay (bE.m1 aZ) (ay (bE.m1 bc) (q00 zha hr (ac (ar 0) (cy ad))) aj) aj)) ad)) (aw (i:=9) sc.nd rfl (Or.inr rfl))
   (ai (bg (q03 (ar 7) (ac (@qK _ _ _ _ _ _ _ _ (ac (cq ["_law_k"] [1,0,9] rfl (bP.of (by kernel_rfl)) (by kernel_rfl) (bL rfl nb.range (ac (ar 8) ad))
    (λ_ _ _ _=>(aw (i:=0) (by show(["_law_k","_law_signs_here","_law_script","_law_i"]:List Str).Nodup;decide +kernel) rfl (Or.inl rfl))) (λ_ _ _ _=>b9) (λ_ _ _ _=>(aY (Cd (K:=K) rfl) (ar 1) (ay (bE.m1 aZ) (q00 zha hr (ac (ar 2) (ac (ay (bE.m0 bK) (ay (bE.m0 bK) aj (ay (bE.m1 eD) aj (ar 3))) (ar 0)) ad))) (aB (wu (K:=K) rfl) rfl nb.len aX (ac (ar 1) ad))) (λ_ _=>rfl)))) ad) rfl rfl) ad))))))))
   bj)
   (ae (q01 10 sc.nd (q00 zhb hr (ac (ar 1) (ac (aY bd (ar 2) aj (λ_ _=>rfl)) (ac (ar 4) ad)))))
   (ae (q01 11 sc.nd (q00 yaL hr (ac (ar 10) (ac (cV cN rfl nb.list eF (ac (ar 7) ad)) ad))))
   (ai (aP (nv (q00 zFb hr (ac (ar 11) ad)) (tD (mW (Er hu) (ar 11) (q00 zib hr (ac (ar 4) (ac (ar 2) (ac (q00 zYb hr (ac (ar 7) ad)) ad)))) (a_ _)))))))))))))))),?_⟩
  symm;refine⟨a,ns,0,rfl,hS,⋯,λc0=>⟨c0,rfl,λls r H1 hls m5 so r1 r4 s1=>h1 _ _ ?_⟩⟩;clear h1;have l1:=s1.seq hS;symm;refine⟨a,ns,1,rfl,l1,⋯,λc1=>⟨c1,rfl,λln p H2 hln g3 p1 p4 a0 L=>h1 _ _ ?_⟩⟩;clear h1;have sA:=s1.trans L;have b0:=L _ _ m5;have l0:=sA.seq hS;have p0:p≠[]:=λe=>by rw[e]at p1;simp at p1
  have r0:r≠[]:=λe=>by rw[e]at r1;simp at r1
  symm;have v:∀{H0:Hp} {k0 m:Nat} {N:List V->Hp->Prop},aD H H0->k0+m<=900->(∀(cs:List Int) H3,cs.length=m->aD H0 H3->N (cs.map V.int) H3)->fJ (xV 0 m) (jA 0) xD (l_ (lE K) [] E0 (jB (E3 1) (jB (Et (BO λi j=>V.int (i+j)) (tC (V.int k0)) (E3 0)) om))) [none,some (V.ref a)] H0 N:=by
   intro H0 k0 m N s0 hk hN;refine mf (n:=m) (emb:=V.int) (λ_=>True) (λσ=>∃x,σ=[x,some (V.ref a)]) ⟨_,rfl⟩ ⋯ ?_ ?_
   ·rintro j hj σ H3 M1 M0 ⟨y,rfl⟩ S k1
    ext;exact⟨a,ns,k0+j,by push_cast;rfl,(s0.trans S).seq hS,⋯,λc=>k1 c _ _ trivial S ⟨_,rfl⟩⟩
   ·intro ys H3 hl _ S
    exact hN ys H3 hl S
  refine⟨a,ns,2,rfl,l0,⋯,λc2=>⟨_,rfl,⋯,⋯,?_⟩⟩;obtain⟨m2,j5⟩:∃m:Nat,c2%6=(m:Int):=⟨_,(Lu ⋯).symm⟩;rw[j5,show(1+(m2:Int)).toNat=1+m2 by omega];refine v (k0:=4) sA ⋯ λn4 H3 hcl S l3 k5=>h1 _ _ ?_;clear h1;generalize z0:aE H3 l3 _=H4;obtain⟨s4,e4⟩:=dN k5 z0;have T:=S.trans s4;have sB:=sA.trans T;symm;refine⟨l3,ln,ls,4,n4,p,r,rfl,e4,T _ _ g3,T _ _ b0,p0,r0,⋯,⋯,⋯,a0,so.one,λtp lr lt ts rs zs H5 f1 g hrl5 a5 s5=>?_⟩;refine⟨_,rfl,_,dO.of f1,rfl,_,_,rfl,_,_,rfl,rfl,h1 _ _ ?_⟩;clear h1;have sC:=sB.trans s5;have b3:=T.trans s5;have I:=b3 _ _ b0;have J:=b3 _ _ g3;have f7:=sC.seq hS;symm;refine⟨a,ns,2,rfl,f7,⋯,λc3=>⟨_,rfl,⋯,⋯,?_⟩⟩;obtain⟨m3,j2⟩:∃m:Nat,c3/6%9=(m:Int):=⟨_,(Lu ⋯).symm⟩;rw[j2,KN];refine v (k0:=20) sC ⋯ λg6 H6 hcl2 s6 l6 k3=>h1 _ _ ?_;clear h1 v;generalize z0:aE H6 l6 _=H7;obtain⟨s7,e7⟩:=dN k3 z0;have O:=s6.trans s7;symm;refine⟨l6,ln,ls,g6,p,r,rfl,e7,O _ _ J,O _ _ I,p0,r0,⋯,⋯,⋯,a0,so.one,λl8 h5 h9 H8 hl8 f8 hrl8 a7 s8=>?_⟩;have b2:=O.trans s8;refine⟨lr,l8,l6,ts,h5,rs,h9,g6,rfl,g.ra.up b2,f8,s8 _ _ e7,⋯,⋯,λl9 e5 u H9 hl9 a2 s9=>h1 _ _ ?_⟩;clear h1;have C:∀x∈u,iQ p r x:=λx hx=>(a2.sub x hx).elim (g.ro x) (a7 x);have hl9':u.length<=16:=by have:=a2.len;omega
  have l2:=a2.ra;have M:=b2.trans s9;have sD:=sC.trans M;have g9:=g.up M;have G:=M _ _ I;have g0:=M _ _ J;have D:=sD.seq hS;clear s6 s7 O e7 s8 b2 f8 a7 s9 g s5 b3 I J f7 f1 a2;symm;refine⟨a,ns,3,rfl,D,⋯,λc4=>⟨lt,zs,c4,rfl,g9.ta,λe=>by rw[e]at a5;simp at a5;omega,λz hz=>⟨(g9.zt z hz).1,(g9.zt z hz).2.2⟩,λz hz=>?_⟩⟩;obtain⟨⟨m4,l7⟩,_,pa,pb,i0⟩:=g9.zt z hz;refine⟨_,rfl,_,dO.of m4,_,rfl,h1 _ _ ?_⟩;clear h1;refine aq λN1 h1=>?_;have ci:∀(lq:Addr) (B:aL) (qa qb:Nat) (a3:Hp) (x8 x9:Option V),aD H9 a3->a3 lq=some (.lst (au B))->ii B qa qb->N1 [some (V.ref a),some (V.ref ls),some (V.ref ln),some (V.ref l3),some (V.ref l9),some (V.ref lt),some (V.ref l6),some (V.ref lq),x8,x9,none,none] a3:=by
   intro lq B qa qb a3 x8 x9 c9 n0 l;refine h1 _ _ ?_;clear h1;have h4:=c9 _ _ G;have e1:=c9 _ _ g0;have a9:=l2.up c9;obtain⟨d4,_⟩:∃d4:0<p.length,True:=⟨List.length_pos_iff.mpr p0,trivial⟩;have U:p[0]∈p:=KM d4;have h0:iG (au p) 0=some (V.str (tx p[0])):=(show iG _ ((0:Nat):Int)=_ from bI (br d4));generalize p[0]=st at U h0;have d7:∀x∈u,kF x:=λx hx=>(C x hx).good;have hnl:=i5 (a0 st U);obtain⟨d1,j1,k6,hnl2,i3⟩:=Dy U C;have hE:iE u d1 B qa qb:=⟨l.rc,l.a1,l.b1,l.a6,l.b6,l.ns,d7,k6,⋯,⋯⟩;symm;refine⟨_,aN.of e1,_,h0,l9,ls,r,st,e5,u,rfl,h4,a9,d7,⋯,⋯,⋯,zb so.ok U a0 ⋯ ⋯ C,λgr dg as d5 hG e9=>h1 _ _ ?_⟩;grind;have d6:=e9 _ _ n0;refine⟨_,.inl (aN.of d6),λlc k2=>?_⟩;generalize z0:aE d5 lc _=H14;obtain⟨b4,n1⟩:=dN k2 z0;refine⟨gr,dg,lc,r,st,as,u,d1,B,qa,qb,rfl,hG.up b4,j1,hE,aN.of n1,λd H15 tb hd hT hB h8=>h1 _ _ ?_⟩;clear h1;have h7:=b4.trans h8;ext;refine⟨d,tb,rfl,hT,hB.nd,λn5 o1 f6 e8=>?_⟩;refine⟨_,rfl,?_⟩;rw[q07 rfl];have n3:d5 d=none:=b4.free hd;have a4:aD d5 n5:=λb o eb=>e8 b o (λz=>by rw[z,n3]at eb;cases eb) (h7 b o eb);refine⟨lq,B,qa,qb,rfl,a4 _ _ d6,l,λds H21 h3 SS=>?_⟩;have sX:=e9.trans (a4.trans SS.sm);have a8:=SS.sm _ _ f6;have e2:=ba.self l.rc (show 0<qa from l.a1) (show 0<qb from l.b1);exact⟨l9,ln,ds,e5,u,d1,p,B,qa,qb,h3,rfl,a9.up sX,⋯,sX _ _ e1,⋯,i3,hE,SS.tbl,λz hz=>(SS.each z hz).2.1,SS.ndp,SS.mem,SS.len,λd2 h6 H22 k7 f9 e6=>⟨_,rfl,_,_,Fy (.inr ⟨o1,e6 _ _ (λz=>by have:=SS.tbl;rw[<- z,a8]at this;cases this) a8⟩) (.inl k7) hB.nd f9.nd (λk=>(hB.same hE hE e2 e2 f9 k).symm),q _⟩⟩
  clear h1;refine oj λtb1 h6 g5 g4=>?_;ext;refine⟨a,ns,2,rfl,D,⋯,λc5=>⟨_,rfl,cD (λ_=>?_) (λ_=>?_)⟩⟩
  ·rw[g5]
   clear g5 g4;ac_nf;refine⟨a,ns,3,rfl,D,⋯,λc6=>⟨_,rfl,h2 _ _ ?_⟩⟩;clear h2;obtain⟨b,hb⟩:∃b:Nat,1+c6%2=(b:Int):=⟨_,(Lu ⋯).symm⟩;rw[hb];ac_nf;refine⟨K5 _,λlm f5=>h2 _ _ ?_⟩;clear h2;generalize z0:aE H9 lm _=H10;obtain⟨f0,n2⟩:=dN f5 z0;ext;refine⟨a,ns,3,rfl,f0.seq D,⋯,λc7=>⟨_,rfl,⋯,⋯,?_⟩⟩;obtain⟨m,hm⟩:∃m:Nat,1+c7/2%2=(m:Int):=⟨_,(Lu ⋯).symm⟩;rw[hm,KN];refine bv (lo:=0) (n:=m) (λi σ H'=>aD H9 H'/\(∃q:aL,H' lm=some (.lst (au q))/\rect q i b/\bQ q)/\∃x9,σ=[some (V.ref a),some (V.ref ls),some (V.ref ln),some (V.ref l3),some (V.ref l9),some (V.ref lt),some (V.ref l6),some (V.ref lm),some (V.int (b:Int)),x9,none,none]) ⟨f0,⟨[],n2,⟨rfl,(λx hx=>nomatch hx)⟩,λrow hr=>nomatch hr⟩,_,rfl⟩ ?_ ?_
   ·rintro i σ H' hi ⟨sm,⟨B,Z,Y,d3⟩,x9,rfl⟩
    ext;refine⟨.inl ⟨rfl,_,aN.of Z⟩,rfl,⋯,⋯,?_⟩;rw[KN];have i2:(ce r).length=r.length:=by unfold ce;rw[KD]
    refine mf (n:=b) (emb:=λc=>V.str (tx [c])) (·∈r) (λσ=>∃x,σ=[x,some (.ref ls),some (.ref a),some (V.int (i:Int))]) ⟨_,rfl⟩ ⋯ ?_ ?_
    ·rintro k hk σ H2 M1 M0 ⟨y,rfl⟩ L k1
     ext;refine⟨a,ns,13+2*i+k,by push_cast;rfl,(sm.trans L).seq D,⋯,λc=>⟨_,aN.of ((sm.trans L) _ _ G),_,rfl,?_⟩⟩;rw[am,i2];obtain⟨j,ej,hj⟩:∃j:Nat,c%(r.length:Int)=(j:Int)/\j<r.length:=⟨(c%(r.length:Int)).toNat,(Lu (Lr _ ⋯)).symm,by have:=Ls c (show(0:Int)<(r.length:Int) by omega);omega⟩;rw[ej];exact⟨⋯,_,aN.of ((sm.trans L) _ _ G),V.str (tx [r[j]]),Du hj,k1 _ _ _ (KM hj) L ⟨_,rfl⟩⟩
    ·intro row H2 i1 hy L l5 k4
     have e:row.map (λc=>V.str (tx [c]))=au (ce row):=by unfold au ce;rw[KS];rfl
     rw[e];generalize z1:aE H2 l5 _=H3;obtain⟨S,e3⟩:=dN k4 z1;have l4:47∉row:=λh=>so.ns (hy _ h);have f3:=(L.trans S) _ _ Z;have f4:=Y.1;refine⟨(ce row).map tx,.inl (by rw[<- d8];exact aN.of e3),?_,_,f3,by rw[am,f4];exact aR ⋯,bz (sm.trans (L.trans S)) f5,B++[row],by rw[af,join_nil,o_,cF],⟨by rw[K3,f4];rfl,λy hy=>?_⟩,λy hy=>?_⟩
     ·have g1:=gH (p:=ce row) (n:=1) λy hy=>by
       obtain⟨c,_,rfl⟩:=Lm.mp hy;exact K4 _
      have g2:(ce row).length=row.length:=by unfold ce;rw[KD]
      have e0:(Str.ofString "").length=0:=rfl;rw[e0,Nat.mul_zero];omega
     ·rcases KR.mp hy with h | h
      ·exact Y.2 y h
      ·rw[KF.mp h];exact i1
     ·rcases KR.mp hy with h | h
      ·exact d3 y h
      ·rw[KF.mp h];exact l4
   ·rintro σ H' ⟨sm,⟨B,Z,Y,d3⟩,x9,rfl⟩
    exact ci lm B m b H' _ _ sm Z ⟨Y,⋯,⋯,⋯,⋯,d3⟩
  ·rw[g4]
   ext;exact ci z.lp z.p pa pb H9 _ _ (λ_ _ h=>h) l7 i0
end
theorem bdc{n:Nat}{P:List Value->Prop}(h:∀a us,us.length=n->P (a::us)):∀us:List Value,us.length=n+1->P us:=by
 intro us e;cases us with|nil=>cases e|cons a us=>exact h a us (Nat.succ.inj e)
theorem bd0{P:List Value->Prop}(h:P []):∀us:List Value,us.length=0->P us:=by
 intro us e;cases us with|nil=>exact h|cons a us=>cases e
theorem bd1{P:List Value->Prop}(h:∀a,P [a]):∀us:List Value,us.length=1->P us:=bdc λa=>bd0 (P:=λus=>P (a::us)) (h a)
theorem bd2{P:List Value->Prop}(h:∀a b,P [a,b]):∀us:List Value,us.length=2->P us:=bdc λa=>bd1 (P:=λus=>P (a::us)) (h a)
theorem bd3{P:List Value->Prop}(h:∀a b c,P [a,b,c]):∀us:List Value,us.length=3->P us:=bdc λa=>bd2 (P:=λus=>P (a::us)) (h a)
theorem bd4{P:List Value->Prop}(h:∀a b c d,P [a,b,c,d]):∀us:List Value,us.length=4->P us:=bdc λa=>bd3 (P:=λus=>P (a::us)) (h a)
theorem bd5{P:List Value->Prop}(h:∀a b c d e,P [a,b,c,d,e]):∀us:List Value,us.length=5->P us:=bdc λa=>bd4 (P:=λus=>P (a::us)) (h a)
def FK(K:W.Frag)(x:Str)(st:Stmt)(f:Addr):Prop:=W.nsIn K mainGlobals x=some (some (.ref f))/\∃oc od osl kV doc pm an cdv ct,K.lookup f=some ⟨oc,od,.func (W.fnOf x x (dS st) (dB st) (ax st) .none kV doc pm an cdv ct),osl⟩/\W.codeIn K cdv x=true/\W.keepIn K (.ref f)=true
theorem fk_mk{K:W.Frag}{st:Stmt}{f:Addr}{oc:Value}{od an:LL}{osl:Array (Option Value)}{kV doc pm cdv ct:Value}(a:W.nsIn K mainGlobals x=some (some (.ref f)))(l:K.lookup f=some ⟨oc,od,.func (W.fnOf x x (dS st) (dB st) (ax st) .none kV doc pm an cdv ct),osl⟩)(c:W.codeIn K cdv x=true)(k:W.keepIn K (.ref f)=true):FK K x st f:=⟨a,oc,od,osl,kV,doc,pm,an,cdv,ct,l,c,k⟩
def MK(K:W.Frag)(x q:Str)(st:Stmt)(f:Addr):Prop:=∃oc od osl kV doc pm an cdv ct,K.lookup f=some ⟨oc,od,.func (W.fnOf x q (dS st) (dB st) (ax st) .none kV doc pm an cdv ct),osl⟩/\W.codeIn K cdv q=true/\W.keepIn K (.ref f)=true/\W.isFn K (.ref f)=true
theorem mk_mk{K:W.Frag}{st:Stmt}{f:Addr}{oc:Value}{od an:LL}{osl:Array (Option Value)}{kV doc pm cdv ct:Value}(l:K.lookup f=some ⟨oc,od,.func (W.fnOf x q (dS st) (dB st) (ax st) .none kV doc pm an cdv ct),osl⟩)(c:W.codeIn K cdv q=true)(k:W.keepIn K (.ref f)=true)(i:W.isFn K (.ref f)=true):MK K x q st f:=⟨oc,od,osl,kV,doc,pm,an,cdv,ct,l,c,k,i⟩
theorem FK.cal{K:W.Frag}{st:Stmt}{f:Addr}{mg:LF}{CX:j6}{ps:LI}{sp:Sp}(P:LH)(w:LK)(base:Heap)(q:FK K x st f)(X:K.In h)(G:h.Ns mainGlobals mg)
  (ok:∀fd,dw K x x st f fd->mg x=some (.ref f)->W.keepIn K (.ref f)=true->dQ K fd ps []->bC P w K mg base CX k f fd ps sp)
  (hb:∀(kV doc pm:Value) (an:LL) (cdv ct:Value) (us:LC),us.length=ps.length->bindArgs (W.fnOf x x (dS st) (dB st) (ax st) .none kV doc pm an cdv ct) ⟨us,[]⟩=pure (ps.zip us):=by first|exact λ_ _ _ _ _ _=>bd1 λ_=>rfl|exact λ_ _ _ _ _ _=>bd2 λ_ _=>rfl|exact λ_ _ _ _ _ _=>bd3 λ_ _ _=>rfl|exact λ_ _ _ _ _ _=>bd4 λ_ _ _ _=>rfl):dP P w K mg base CX k x ps sp:=by
 obtain⟨a,oc,od,osl,kV,doc,pm,an,cdv,ct,l,c,d⟩:=q;have F:=dh l c d;have b:=F.binds hb;exact⟨_,_,ok _ F (W.mg_of X G a) d b,W.mg_of X G a,d,b⟩
theorem all_mk{l:W.OpenLaw}{K:W.Frag}{mg:LF}{fa f2:Addr}(X:K.In h)(G:h.Ns mainGlobals mg)(IQ:mg "law"=some (.ref fa))
  (a1:FK K "only_of" lI f1) (a2:FK K "is_name" kZ f2) (a3:FK K "are_signs" iN f3) (a4:FK K "check_made_of" e_ f4) (a5:FK K "numbers_by_name" dR f5) (a6:FK K "mirror" oP f6) (a7:FK K "column_from_below" dy f7) (a8:FK K "quarter" kP f8) (a9:FK K "turned" pE f9) (Kl:FK K "after" sS f10) (IY:FK K "back" wg f11) (HQ:FK K "shown" sU f12) (IV:FK K "windows_of" gW f13) (JI:FK K "cut_out" ld f14) (JZ:FK K "cells_then_rows" dW f15) (Kj:FK K "seen_in" lA f16) (Jw:FK K "parted" nK f17) (J7:FK K "parted_texts" fM f18) (IH:FK K "cost_by" lJ f19) (Ju:FK K "coming" oX f20) (HZ:FK K "lower" sT f21) (JE:FK K "put_together" fH f22) (JS:FK K "turn_about" g8 f23) (Ih:FK K "enter_turnings" d9 f24) (J6:FK K "enter_seen" gZ f25) (Ij:FK K "table_of" jR f26) (I_:FK K "_law_cell" oR f27) (Iy:FK K "_law_whole" lD f28) (Jf:FK K "_law_signs" lP f29) (Ik:FK K "_law_names" lh f30) (JP:FK K "_law_grammar" iO f31) (Jc:FK K "_law_text" ow f32) (Kk:FK K "_law_turned" j0 f33) (Km:FK K "_law_back" oH f34) (Ji:FK K "_law_put" rQ f35) (IB:FK K "_law_grown" lu f36) (Kc:FK K "_law_noise" lF f37) (Jg:FK K "_law_amid" oJ f38) (J0:FK K "_law_uses" nA f39) (JK:FK K "_law_costs" lC f40) (J2:FK K "_law_table" lH f41) (Jp:FK K "_law_picked" jX f42) (IF:FK K "_law_seen" oB f43) (J8:FK K "_law_settled" iS f44) (IM:FK K "law" qh f45)
  {yac zya zda zoa zaa zka zba zma zca zpa zga zza zta zva zAa zea zqa zJa zBa zCa yaa yat yay:Addr} {ya7 ya0 ya6 ybb yba ybe ya3:Tok}  (y3:W.nsIn K mainGlobals "CAPITALS"=some (some (.str "ABCDEFGHIJKLMNOPQRSTUVWXYZ" ya7))) (DR:W.nsIn K mainGlobals "SMALLS"=some (some (.str "abcdefghijklmnopqrstuvwxyz" ya0))) (p7:W.nsIn K mainGlobals "LONGEST_NAME"=some (some (.int 4 ya6))) (F9:W.nsIn K mainGlobals "Rule"=some (some (.ref yac))) (Fu:W.specialIn K (.ref yac) "__getattribute__"=some (some (.builtin "type.__getattribute__"))) (ET:W.readsIn K yac (.type "type")=true) (mS:W.findCls K (.ref yac) (.type "type") "__init__"=some (.val (.ref zya))) (mE:MK K "__init__" "Rule.__init__" fZ zya) (zJ:W.nsIn K mainGlobals "CellRule"=some (some (.ref zda))) (FG:W.specialIn K (.builtin "object.__class__") "__get__"=some (some (.builtin "getset_descriptor.__get__"))) (FA:W.takesIn K (.builtin "object.__class__")=some true) (JU:W.plainGet K zda Str.empty=true) (J9:W.hasDictIn K zda=true) (IL:W.plainOver K zda=true) (JF:W.findIn K (.ref zda) "__setattr__"=some (some (.builtin "object.__setattr__"))) (I0:W.findIn K (.ref zda) "__class__"=some (some (.builtin "object.__class__"))) (Jr:W.mroIn K zda (.type "object")=some true) (Ig:W.findIn K (.ref zda) "name"=some none) (IS:W.findIn K (.ref zda) "cost"=some none) (Kq:W.findIn K (.ref zda) "part_names"=some none) (Im:W.findIn K (.ref zda) "sign"=some none) (vU:W.makesIn K zda=true) (wG:W.findIn K (.ref zda) "__init__"=some (some (.ref zoa))) (jo:MK K "__init__" "CellRule.__init__" gj zoa) (vH:W.keepIn K (.ref zda)=true) (JM:W.kitOne K (.ref zda) (.ref yac)=some true) (HV:W.kitOne K (.ref zda) (.ref zda)=some true) (uP:W.nsIn K mainGlobals "BesideRule"=some (some (.ref zaa))) (Jh:W.plainGet K zaa Str.empty=true) (Jm:W.hasDictIn K zaa=true) (JX:W.plainOver K zaa=true) (Kf:W.findIn K (.ref zaa) "__setattr__"=some (some (.builtin "object.__setattr__"))) (JD:W.findIn K (.ref zaa) "__class__"=some (some (.builtin "object.__class__"))) (IP:W.mroIn K zaa (.type "object")=some true) (IW:W.findIn K (.ref zaa) "name"=some none) (Ki:W.findIn K (.ref zaa) "cost"=some none) (Jn:W.findIn K (.ref zaa) "part_names"=some none) (IX:W.findIn K (.ref zaa) "one"=some none) (Ie:W.findIn K (.ref zaa) "other"=some none) (sM:W.makesIn K zaa=true) (tJ:W.findIn K (.ref zaa) "__init__"=some (some (.ref zka))) (iC:MK K "__init__" "BesideRule.__init__" eQ zka) (sh:W.keepIn K (.ref zaa)=true) (Jx:W.kitOne K (.ref zaa) (.ref yac)=some true) (HW:W.kitOne K (.ref zaa) (.ref zaa)=some true) (vI:W.nsIn K mainGlobals "AboveRule"=some (some (.ref zba))) (Kb:W.plainGet K zba Str.empty=true) (JQ:W.hasDictIn K zba=true) (JN:W.plainOver K zba=true) (JH:W.findIn K (.ref zba) "__setattr__"=some (some (.builtin "object.__setattr__"))) (I9:W.findIn K (.ref zba) "__class__"=some (some (.builtin "object.__class__"))) (J_:W.mroIn K zba (.type "object")=some true) (Jl:W.findIn K (.ref zba) "name"=some none) (J4:W.findIn K (.ref zba) "cost"=some none) (IE:W.findIn K (.ref zba) "part_names"=some none) (Jz:W.findIn K (.ref zba) "one"=some none) (JA:W.findIn K (.ref zba) "other"=some none) (uF:W.makesIn K zba=true) (uB:W.findIn K (.ref zba) "__init__"=some (some (.ref zma))) (iW:MK K "__init__" "AboveRule.__init__" ft zma) (ul:W.keepIn K (.ref zba)=true) (Kg:W.kitOne K (.ref zba) (.ref yac)=some true) (HJ:W.kitOne K (.ref zba) (.ref zba)=some true) (zo:W.nsIn K mainGlobals "TurnRule"=some (some (.ref zca))) (JG:W.plainGet K zca Str.empty=true) (JJ:W.hasDictIn K zca=true) (J1:W.plainOver K zca=true) (IT:W.findIn K (.ref zca) "__setattr__"=some (some (.builtin "object.__setattr__"))) (IC:W.findIn K (.ref zca) "__class__"=some (some (.builtin "object.__class__"))) (Jk:W.mroIn K zca (.type "object")=some true) (Jj:W.findIn K (.ref zca) "name"=some none) (Io:W.findIn K (.ref zca) "cost"=some none) (Iv:W.findIn K (.ref zca) "part_names"=some none) (JY:W.findIn K (.ref zca) "part"=some none) (JV:W.findIn K (.ref zca) "turning"=some none) (wR:W.makesIn K zca=true) (wN:W.findIn K (.ref zca) "__init__"=some (some (.ref zpa))) (jv:MK K "__init__" "TurnRule.__init__" gb zpa) (wI:W.keepIn K (.ref zca)=true) (IU:W.kitOne K (.ref zca) (.ref yac)=some true) (HI:W.kitOne K (.ref zca) (.ref zca)=some true) (vm:W.nsIn K mainGlobals "MOST_SIGNS"=some (some (.int 4 ybb))) (uL:W.nsIn K mainGlobals "MOST_RULES"=some (some (.int 24 yba))) (ua:W.nsIn K mainGlobals "MOST_NAMES"=some (some (.int 8 ybe))) (yC:W.nsIn K mainGlobals "TURNINGS"=some (some (.int 8 ya3))) (IG:W.kitOne K (.ref zda) (.ref zaa)=some false) (Ir:W.kitOne K (.ref zda) (.ref zba)=some false) (Jo:W.kitOne K (.ref zda) (.ref zca)=some false) (II:W.kitOne K (.ref zaa) (.ref zda)=some false) (J3:W.kitOne K (.ref zaa) (.ref zba)=some false) (IK:W.kitOne K (.ref zaa) (.ref zca)=some false) (H_:W.kitOne K (.ref zba) (.ref zda)=some false) (JR:W.kitOne K (.ref zba) (.ref zaa)=some false) (Iu:W.kitOne K (.ref zba) (.ref zca)=some false) (Kd:W.kitOne K (.ref zca) (.ref zda)=some false) (Ix:W.kitOne K (.ref zca) (.ref zaa)=some false) (Il:W.kitOne K (.ref zca) (.ref zba)=some false) (lM:W.findIn K (.ref zda) "parts"=some (some (.ref zga))) (sJ:MK K "parts" "Rule.parts" fj zga) (mN:W.findIn K (.ref zda) "ways"=some (some (.ref zza))) (mM:MK K "ways" "CellRule.ways" gg zza) (jJ:W.findIn K (.ref zaa) "parts"=some (some (.ref zga))) (kl:W.findIn K (.ref zaa) "ways"=some (some (.ref zta))) (kG:MK K "ways" "BesideRule.ways" eG zta) (kC:W.findIn K (.ref zba) "parts"=some (some (.ref zga))) (lN:W.findIn K (.ref zba) "ways"=some (some (.ref zva))) (kR:MK K "ways" "AboveRule.ways" fe zva) (lK:W.findIn K (.ref zca) "parts"=some (some (.ref zga))) (mH:W.findIn K (.ref zca) "ways"=some (some (.ref zAa))) (mF:MK K "ways" "TurnRule.ways" fU zAa) (Aq:W.nsIn K mainGlobals "Grammar"=some (some (.ref zea))) (HY:W.plainGet K zea Str.empty=true) (Ks:W.hasDictIn K zea=true) (Jd:W.plainOver K zea=true) (JW:W.findIn K (.ref zea) "__setattr__"=some (some (.builtin "object.__setattr__"))) (Is:W.findIn K (.ref zea) "__class__"=some (some (.builtin "object.__class__"))) (Jq:W.mroIn K zea (.type "object")=some true) (Ja:W.findIn K (.ref zea) "signs"=some none) (JB:W.findIn K (.ref zea) "start"=some none) (JL:W.findIn K (.ref zea) "kept"=some none) (Jb:W.findIn K (.ref zea) "numbers"=some none) (ze:W.makesIn K zea=true) (yX:W.findIn K (.ref zea) "__init__"=some (some (.ref zqa))) (jV:MK K "__init__" "Grammar.__init__" fY zqa) (zK:W.keepIn K (.ref zea)=true) (n6:W.findIn K (.ref zea) "rule"=some (some (.ref zJa))) (nX:MK K "rule" "Grammar.rule" gi zJa) (mD:W.findIn K (.ref zea) "rules"=some (some (.ref zBa))) (mO:MK K "rules" "Grammar.rules" fg zBa) (mP:W.findIn K (.ref zea) "names"=some (some (.ref zCa))) (mB:MK K "names" "Grammar.names" fz zCa) (Gb:W.nsIn K mainGlobals "Cuts"=some (some (.ref yaa))) (Fp:W.plainGet K yaa Str.empty=true) (Fa:W.hasDictIn K yaa=true) (EA:W.plainOver K yaa=true) (E2:W.findIn K (.ref yaa) "__setattr__"=some (some (.builtin "object.__setattr__"))) (E6:W.findIn K (.ref yaa) "__class__"=some (some (.builtin "object.__class__"))) (E5:W.mroIn K yaa (.type "object")=some true) (oz:W.findIn K (.ref yaa) "picture"=some none) (vk:W.findIn K (.ref yaa) "text"=some none) (jq:W.findIn K (.ref yaa) "beside_texts"=some none) (jZ:W.findIn K (.ref yaa) "above_texts"=some none) (EW:W.makesIn K yaa=true) (Ff:W.findIn K (.ref yaa) "__init__"=some (some (.ref yat))) (mK:MK K "__init__" "Cuts.__init__" gl yat) (Ev:W.keepIn K (.ref yaa)=true) (jU:W.findIn K (.ref yaa) "turned_text"=some (some (.ref yay))) (j5:MK K "turned_text" "Cuts.turned_text" eN yay)
  (z0:W.nsIn K mainGlobals "len"=some none) (z1:W.nsIn K mainGlobals "range"=some none) (z2:W.nsIn K mainGlobals "list"=some none) (z3:W.nsIn K mainGlobals "tuple"=some none) (z4:W.nsIn K mainGlobals "isinstance"=some none) (z5:W.nsIn K mainGlobals "int"=some none) (z6:W.nsIn K mainGlobals "bool"=some none) (z7:W.nsIn K mainGlobals "str"=some none) (z8:W.nsIn K mainGlobals "reversed"=some none) (z9:W.nsIn K mainGlobals "all"=some none) (J':W.nsIn K mainGlobals "enumerate"=some none) (J5:W.nsIn K mainGlobals "zip"=some none) (Jy:W.nsIn K mainGlobals "sorted"=some none) (JC:W.nsIn K mainGlobals "set"=some none) (Jt:W.nsIn K mainGlobals "dict"=some none) (Jv:W.nsIn K mainGlobals "min"=some none) (Ko:W.nsIn K mainGlobals "max"=some none) (JO:W.nsIn K mainGlobals "sum"=some none) (Je:W.nsIn K mainGlobals "ValueError"=some none) :
  ∃fd:FuncData,(∀(s:LB) (v:Value),BindsTo s fd ⟨[v],[]⟩ [("_law_script",v)])/\∀base:Heap,K.In base->base.Ns mainGlobals mg->bC l.prog w K mg base bJ 11 fa fd ["_law_script"] (rG K):=by
 obtain⟨an,oc,od,osl,kV,doc,pm,ann,cdv,ct,hl,hc,hk⟩:=IM;have e:=IQ.symm.trans (W.mg_of X G an);cases e;have FL:=dh hl hc hk;have nb:NB mg:=⟨W.mg_none_of X G z0,W.mg_none_of X G z1,W.mg_none_of X G z2,W.mg_none_of X G z3,W.mg_none_of X G z4,W.mg_none_of X G z5,W.mg_none_of X G z6,W.mg_none_of X G z7,W.mg_none_of X G z8,W.mg_none_of X G z9,W.mg_none_of X G J',W.mg_none_of X G J5,W.mg_none_of X G Jy,W.mg_none_of X G JC,W.mg_none_of X G Jt,W.mg_none_of X G Jv,W.mg_none_of X G Ko,W.mg_none_of X G JO,W.mg_none_of X G Je⟩;refine⟨W.fnOf "law" "law" (dS qh) (dB qh) (ax qh) .none kV doc pm ann cdv ct,λs v=>.of_eq rfl,λbase _ _=>?_⟩;have yaP:=W.mg_of X G y3;have yaj:=W.mg_of X G DR;have yau:=W.mg_of X G p7;have yaY:=W.mg_of X G F9;obtain⟨_,_,_,_,_,_,_,_,_,mlRule___init__,mcRule___init__,zVa,mfRule___init__⟩:=mE;have zWa:=dh (st:=fZ) mlRule___init__ mcRule___init__ zVa;have zrc:=zWa.binds (ps:=["self","name","cost","part_names"]) λ_ _ _ _ _ _=>bd4 λ_ _ _ _=>rfl
 have ya8:Cn K yac "__init__" zya:=⟨Fu,ET,mS,zVa⟩;have zQa:=W.mg_of X G zJ;have zKa:jl K zda:=⟨⟨JU,J9,IL,JF⟩,I0,FG,FA,Jr⟩;obtain⟨_,_,_,_,_,_,_,_,_,mlCellRule___init__,mcCellRule___init__,zub,mfCellRule___init__⟩:=jo;have zGa:=dh (st:=gj) mlCellRule___init__ mcCellRule___init__ zub;have zvb:=zGa.binds (ps:=["self","name","cost","sign"]) λ_ _ _ _ _ _=>bd4 λ_ _ _ _=>rfl
 have zSc:Mk K zda zoa:=⟨vU,wG,mfCellRule___init__,vH⟩;have zJc:=W.mg_of X G uP;have zua:jl K zaa:=⟨⟨Jh,Jm,JX,Kf⟩,JD,FG,FA,IP⟩;obtain⟨_,_,_,_,_,_,_,_,_,mlBesideRule___init__,mcBesideRule___init__,zmb,mfBesideRule___init__⟩:=iC;have zwa:=dh (st:=eQ) mlBesideRule___init__ mcBesideRule___init__ zmb;have znb:=zwa.binds (ps:=["self","name","cost","one","other"]) λ_ _ _ _ _ _=>bd5 λ_ _ _ _ _=>rfl
 have zCc:Mk K zaa zka:=⟨sM,tJ,mfBesideRule___init__,sh⟩;have zTc:=W.mg_of X G vI;have zDa:jl K zba:=⟨⟨Kb,JQ,JN,JH⟩,I9,FG,FA,J_⟩;obtain⟨_,_,_,_,_,_,_,_,_,mlAboveRule___init__,mcAboveRule___init__,zsb,mfAboveRule___init__⟩:=iW;have zEa:=dh (st:=ft) mlAboveRule___init__ mcAboveRule___init__ zsb;have ztb:=zEa.binds (ps:=["self","name","cost","one","other"]) λ_ _ _ _ _ _=>bd5 λ_ _ _ _ _=>rfl
 have zKc:Mk K zba zma:=⟨uF,uB,mfAboveRule___init__,ul⟩;have zxa:=W.mg_of X G zo;have zLa:jl K zca:=⟨⟨JG,JJ,J1,IT⟩,IC,FG,FA,Jk⟩;obtain⟨_,_,_,_,_,_,_,_,_,mlTurnRule___init__,mcTurnRule___init__,zwb,mfTurnRule___init__⟩:=jv;have zHa:=dh (st:=gb) mlTurnRule___init__ mcTurnRule___init__ zwb;have zxb:=zHa.binds (ps:=["self","name","cost","part","turning"]) λ_ _ _ _ _ _=>bd5 λ_ _ _ _ _=>rfl
 have zUc:Mk K zca zpa:=⟨wR,wN,mfTurnRule___init__,wI⟩
 let R:RC:=⟨yac,zda,zaa,zba,zca⟩
 have rk:lx K R:=⟨zKa,zua,zDa,zLa,⟨Ig,IS,Kq,Im⟩,⟨IW,Ki,Jn,IX,Ie⟩,⟨Jl,J4,IE,Jz,JA⟩,⟨Jj,Io,Iv,JY,JV⟩,JM,Jx,Kg,IU,HV,HW,HJ,HI⟩;have yam:=W.mg_of X G vm;have yao:=W.mg_of X G uL;have yax:=W.mg_of X G ua;have yai:=W.mg_of X G yC;have rk4:AF K R:=⟨λi j hi hj=>by rcases eM hi with rfl | rfl | rfl | rfl<;>rcases eM hj with rfl | rfl | rfl | rfl;exact HV;exact IG;exact Ir;exact Jo;exact II;exact HW;exact J3;exact IK;exact H_;exact JR;exact HJ;exact Iu;exact Kd;exact Ix;exact Il;exact HI⟩;obtain⟨_,_,_,_,_,_,_,_,_,mlRule_parts,mcRule_parts,zra,mfRule_parts⟩:=sJ;have zsa:=dh (st:=fj) mlRule_parts mcRule_parts zra;have zFa:=zsa.binds (ps:=["self"]) λ_ _ _ _ _ _=>bd1 λ_=>rfl
 have zQb:iI K zda "parts" zga:=⟨lM,mfRule_parts,zra⟩;obtain⟨_,_,_,_,_,_,_,_,_,mlCellRule_ways,mcCellRule_ways,zXa,mfCellRule_ways⟩:=mM;have zYa:=dh (st:=gg) mlCellRule_ways mcCellRule_ways zXa;have zsc:=zYa.binds (ps:=["self","cuts"]) λ_ _ _ _ _ _=>bd2 λ_ _=>rfl
 have zcc:iI K zda "ways" zza:=⟨mN,mfCellRule_ways,zXa⟩;have zyb:iI K zaa "parts" zga:=⟨jJ,mfRule_parts,zra⟩;obtain⟨_,_,_,_,_,_,_,_,_,mlBesideRule_ways,mcBesideRule_ways,zOa,mfBesideRule_ways⟩:=kG;have zPa:=dh (st:=eG) mlBesideRule_ways mcBesideRule_ways zOa;have zRb:=zPa.binds (ps:=["self","cuts"]) λ_ _ _ _ _ _=>bd2 λ_ _=>rfl
 have zIb:iI K zaa "ways" zta:=⟨kl,mfBesideRule_ways,zOa⟩;have zJb:iI K zba "parts" zga:=⟨kC,mfRule_parts,zra⟩;obtain⟨_,_,_,_,_,_,_,_,_,mlAboveRule_ways,mcAboveRule_ways,zSa,mfAboveRule_ways⟩:=kR;have zTa:=dh (st:=fe) mlAboveRule_ways mcAboveRule_ways zSa;have zdc:=zTa.binds (ps:=["self","cuts"]) λ_ _ _ _ _ _=>bd2 λ_ _=>rfl
 have zSb:iI K zba "ways" zva:=⟨lN,mfAboveRule_ways,zSa⟩;have zTb:iI K zca "parts" zga:=⟨lK,mfRule_parts,zra⟩;obtain⟨_,_,_,_,_,_,_,_,_,mlTurnRule_ways,mcTurnRule_ways,zZa,mfTurnRule_ways⟩:=mF;have zab:=dh (st:=fU) mlTurnRule_ways mcTurnRule_ways zZa;have ztc:=zab.binds (ps:=["self","cuts"]) λ_ _ _ _ _ _=>bd2 λ_ _=>rfl
 have zec:iI K zca "ways" zAa:=⟨mH,mfTurnRule_ways,zZa⟩;have zrd:=W.mg_of X G Aq;have zna:jl K zea:=⟨⟨HY,Ks,Jd,JW⟩,Is,FG,FA,Jq⟩;obtain⟨_,_,_,_,_,_,_,_,_,mlGrammar___init__,mcGrammar___init__,zKb,mfGrammar___init__⟩:=jV;have zMa:=dh (st:=fY) mlGrammar___init__ mcGrammar___init__ zKb;have zLb:=zMa.binds (ps:=["self","signs","start","rules"]) λ_ _ _ _ _ _=>bd4 λ_ _ _ _=>rfl
 have zid:Mk K zea zqa:=⟨ze,yX,mfGrammar___init__,zK⟩;have gk:HP K zea:=⟨zna,Ja,JB,JL,Jb⟩;obtain⟨_,_,_,_,_,_,_,_,_,mlGrammar_rule,mcGrammar_rule,zob,mfGrammar_rule⟩:=nX;have zpb:=dh (st:=gi) mlGrammar_rule mcGrammar_rule zob;have zzc:=zpb.binds (ps:=["self","k"]) λ_ _ _ _ _ _=>bd2 λ_ _=>rfl
 have zuc:iI K zea "rule" zJa:=⟨n6,mfGrammar_rule,zob⟩;obtain⟨_,_,_,_,_,_,_,_,_,mlGrammar_rules,mcGrammar_rules,zbb,mfGrammar_rules⟩:=mO;have zcb:=dh (st:=fg) mlGrammar_rules mcGrammar_rules zbb;have zvc:=zcb.binds (ps:=["self"]) λ_ _ _ _ _ _=>bd1 λ_=>rfl
 have zfc:iI K zea "rules" zBa:=⟨mD,mfGrammar_rules,zbb⟩;obtain⟨_,_,_,_,_,_,_,_,_,mlGrammar_names,mcGrammar_names,zdb,mfGrammar_names⟩:=mB;have zeb:=dh (st:=fz) mlGrammar_names mcGrammar_names zdb;have zwc:=zeb.binds (ps:=["self"]) λ_ _ _ _ _ _=>bd1 λ_=>rfl
 have zgc:iI K zea "names" zCa:=⟨mP,mfGrammar_names,zdb⟩;have ybd:=W.mg_of X G Gb;have yae:jl K yaa:=⟨⟨Fp,Fa,EA,E2⟩,E6,FG,FA,E5⟩;obtain⟨_,_,_,_,_,_,_,_,_,mlCuts___init__,mcCuts___init__,mkCuts___init__,mfCuts___init__⟩:=mK;have yaX:=dh (st:=gl) mlCuts___init__ mcCuts___init__ mkCuts___init__;have ya1:=yaX.binds (ps:=["self","picture"]) λ_ _ _ _ _ _=>bd2 λ_ _=>rfl
 have ya9:Mk K yaa yat:=⟨EW,Ff,mfCuts___init__,Ev⟩;obtain⟨_,_,_,_,_,_,_,_,_,mlCuts_turned_text,mcCuts_turned_text,mkCuts_turned_text,mfCuts_turned_text⟩:=j5;have yaS:=dh (st:=eN) mlCuts_turned_text mcCuts_turned_text mkCuts_turned_text;have ya2:=yaS.binds (ps:=["self","t"]) λ_ _ _ _ _ _=>bd2 λ_ _=>rfl
 have yaZ:iI K yaa "turned_text" yay:=⟨jU,mfCuts_turned_text,mkCuts_turned_text⟩;have nc:D9 K yaa:=⟨oz,vk,jq,jZ⟩;have yad:=a1∣vF F nb;have yaf:=a2∣w_ F nb yau yaP yad;have zfa:zm l.prog w K mg base bJ 3 "Rule" "__init__" ["self","name","cost","part_names"] (dt K):=⟨_,_,_,sR zWa nb yaf,yaY,ya8,zrc⟩;have zfb:kT l.prog w K mg base bJ 4 "CellRule" zda ["self","name","cost","sign"] (io K):=⟨_,_,tF zGa nb yaj yad zfa,zQa,zSc,zvb⟩;have zNa:kT l.prog w K mg base bJ 4 "BesideRule" zaa ["self","name","cost","one","other"] (dv K):=⟨_,_,nO zwa nb zfa,zJc,zCc,znb⟩;have zRa:kT l.prog w K mg base bJ 4 "AboveRule" zba ["self","name","cost","one","other"] (dv K):=⟨_,_,qc zEa nb zfa,zTc,zKc,ztb⟩;have zgb:kT l.prog w K mg base bJ 4 "TurnRule" zca ["self","name","cost","part","turning"] (g7 K):=⟨_,_,tH zHa nb zfa,zxa,zUc,zxb⟩;have yaK:v4 l.prog w K mg base bJ 1 "parts" (pi K R):=D2 ⟨_,_,_,eJ zsa nb,zKa.cl,zQb,zFa⟩ ⟨_,_,_,eJ zsa nb,zua.cl,zyb,zFa⟩ ⟨_,_,_,eJ zsa nb,zDa.cl,zJb,zFa⟩ ⟨_,_,_,eJ zsa nb,zLa.cl,zTb,zFa⟩;have yaJ:=a3∣tW F nb yam yaj yad;have yaI:=a4∣lQ F nb rk rk4 yao zQa yaJ yaf;have yaA:=a5∣j3 F nb rk yaK;have zqb:kT l.prog w K mg base bJ 4 "Grammar" zea ["self","signs","start","rules"] (ia K R):=⟨_,_,sG zMa nb yax yaI yaA,zrd,zid,zLb⟩;have yah:jp l.prog w K mg base bJ 1 zea "rule" ["self","k"] (fm R zea):=⟨_,_,sd zpb nb zna.cl gk.na,zna.cl,zuc,zzc⟩;have yak:jp l.prog w K mg base bJ 1 zea "rules" ["self"] (gB R zea):=⟨_,_,pL zcb nb zna.cl gk.na,zna.cl,zfc,zvc⟩;have yaB:jp l.prog w K mg base bJ 1 zea "names" ["self"] (gx R zea):=⟨_,_,pP zeb nb zna.cl gk.na,zna.cl,zgc,zwc⟩;have yaM:=a6∣yw F nb;have yaE:=a7∣za F nb;have yas:=a8∣w9 F nb yaE;have zla:=a9∣yN F nb yaM yas;have yaF:=Kl∣AG F;have yaw:=IY∣C' F;have yab:=HQ∣Bx F;have yav:=IV∣pZ F nb;have yaO:=JI∣xf F nb;have yaH:=JZ∣jW F nb;have yaC:=Kj∣wU F nb yai yav yaO zla yab yaH;have yan:=Jw∣zy F nb;have yal:=J7∣mG F nb yan yab;have yar:kT l.prog w K mg base bJ 3 "Cuts" yaa ["self","picture"] (ik K):=⟨_,_,sF yaX nb yab yal,ybd,ya9,ya1⟩;have zIa:jp l.prog w K mg base bJ 4 yaa "turned_text" ["self","t"] (fL yaa):=⟨_,_,pp yaS nb yae.cl nc zla yab,yae.cl,yaZ,ya2⟩;have yaG:v4 l.prog w K mg base bJ 5 "ways" (o0 R yaa):=D2 ⟨_,_,_,(tV zYa yae.cl nc zKa.cl rk.a0.2.2.2).mono (by decide),zKa.cl,zcc,zsc⟩ ⟨_,_,_,(oZ zPa yae.cl nc zua.cl ⟨rk.a1.2.2.2.1,rk.a1.2.2.2.2⟩).mono (by decide),zua.cl,zIb,zRb⟩ ⟨_,_,_,(p9 zTa yae.cl nc zDa.cl ⟨rk.a2.2.2.2.1,rk.a2.2.2.2.2⟩).mono (by decide),zDa.cl,zSb,zdc⟩ ⟨_,_,_,tI zab yae zLa.cl ⟨rk.a3.2.2.2.1,rk.a3.2.2.2.2⟩ zIa yaw,zLa.cl,zec,ztc⟩;have yaR:=IH∣v9 F nb rk;have yaq:=Ju∣zD F nb yah yaG yaR;have yag:=HZ∣BD F nb;have yaD:=JE∣mL F nb rk yae.cl nc yah yaq yag;have yaz:=JS∣pX F nb rk yaF yag;have yaQ:=Ih∣kf F nb rk rk4 yae nc yai zxa yak yaB yar zla yaD yaz;have yap:=J6∣pW F nb yaC yab yaQ;have yaL:=Ij∣uE F nb yap;have zha:=I_∣yv F nb;have zzb:=Iy∣xj F nb;have zBb:=Jf∣vM F nb;have zCb:=Ik∣vN F nb;have zhb:=JP∣rR F nb rk gk zfb zNa zRa zgb zqb
 have zja:=Jc∣zn F nb;have zia:=Kk∣vA F nb;have zVb:=Km∣yT F;have zxc:=Ji∣Ar F nb;have zDb:=IB∣vG F nb zxc zia;have zEb:=Kc∣wS F nb;have zXb:=Jg∣zV F nb;have zWb:=J0∣zL F nb zja zVb zia;have zAb:=JK∣vZ F nb nb.sum zWb;have zFb:=J2∣wT F nb zzb;have zrb:=Jp∣ue F nb;have zYb:=IF∣zE F nb zia zja;have zib:=J8∣rF F nb zAb;exact Ew FL nb zha zBb zCb zDb zEb zXb zrb zhb yaL zYb zFb zib
theorem walk{l:W.OpenLaw}{loose:LI}{XP:(Str->Option Value)->Heap->Prop}{YP:World->Heap->Prop}{d:DefRec}{K:Params->W.Frag}(hn:l.most=some 63)(hdf:d.params.defaults=[])
  (hY:∀(w:LK) (h:Heap),YP w h->(K w.params).In h)
  (F:∀(w:LK) (mg:LF) (fa:Addr) (h:Heap),(K w.params).In h->h.Ns mainGlobals mg->mg d.name=some (.ref fa) ->
   ∃fd:FuncData,(∀(s:LB) (u:Value),BindsTo s fd ⟨[u],[]⟩ [("_law_script",u)])/\∀base:Heap,(K w.params).In base->base.Ns mainGlobals mg->bC l.prog w (K w.params) mg base bJ 11 fa fd ["_law_script"] (rG (K w.params))) :
  W.WalkO q loose XP YP l.row.toRowW d [] (λf vs=>PySem.call f vs):=
 L2.walk_of (n:=63) (k:=11) (x:="_law_script") (CX:=λ_=>bJ) (sp:=λw=>rG (K w.params)) hn (by decide) hdf ⟨rfl,by decide,by decide⟩ hY F (λ_ _ a ns hl _ hS=>⟨a,ns,rfl,hS,λ_=>rfl⟩) λ_ _ _ _ _ z=>z
end Q21
open PySem PySem.W PyProof.Rows
local macro_rules | `(tactic| walk_at "kk")=>`(tactic| first | (refine' Q21.fk_mk ?p ?q ?r ?s;(case p=>k_is);(case q=>k_is);(case r=>k_is);(case s=>k_is)) | (refine' Q21.mk_mk ?p ?q ?r ?s;(case p=>k_is);(case q=>k_is);(case r=>k_is);(case s=>k_is)) | k_is | kernel_rfl | rfl | decide +kernel)
set_option maxRecDepth 100000 in
set_option maxHeartbeats 0 in
theorem PySem.Challenge.cw_quiltlaw_k21_whole_table_by_a_model_holds : PySem.Challenge.rw_quiltlaw_k21_whole_table_by_a_model.Holds := by
 w_on;o_law;k_head;(case hw=>w_witness2)
 k_fill
 refine Q21.walk (l:=PySem.Challenge.rw_quiltlaw_k21_whole_table_by_a_model) rfl rfl (λw h Y=>PySem.W.kIn_of Y) ?F
 case F=>
  intro w mg fa h KX G hmg
  apply Q21.all_mk KX G hmg
  all_goals (try walk_at "kk")
