import PyProof.Rows.All
import Wide.All
import OpenK.AllK
import Wide.FinOn
import HandS.ForMost
import HandS.IsInst
import HandS.Defaults
import HandS.Wide
import HandS.TupAny
import HandS.Walk
import HandS.Zip
import PyProof.ReprRoads
import PyProof.Rows.NestShow
import HandS.StrMore
import HandS.Text
import PyProof.Rows.RuleB_bool
import PyProof.EqKinds
import KE.KIntText
import PySem.Challenge.RW_waitedmeets_k01_worths_of_all_sorts
set_option Elab.async false
set_option linter.all false
set_option maxRecDepth 100000
set_option maxHeartbeats 8000000
namespace Wm
open PySem PySem.Spec PyProof.Rows L2
abbrev D := PyData
abbrev En := List (Option D)
mutual
/-- the value v stands for the datum d in the heap H -/
inductive Dt (K : PySem.W.Frag) (H : Hp) : V → D → Prop
  | non : Dt K H .non .none
  | bl (b : Bool) : Dt K H (.bl b) (.bool b)
  | int (i : Int) : Dt K H (.int i) (.int i)
  | str (x : Str) : Dt K H (.str x) (.str x)
  | lst {a : Addr} {vs : List V} {ds : List D} : H a = some (.lst vs) → DtAll K H vs ds → Dt K H (.ref a) (.list ds)
  | tup {a : Addr} {vs : List V} {ds : List D} : SqT K H a vs → DtAll K H vs ds → Dt K H (.ref a) (.tuple ds)
  | nod {a : Addr} : H a = some (.dK []) → Dt K H (.ref a) (.dict [])
inductive DtAll (K : PySem.W.Frag) (H : Hp) : List V → List D → Prop
  | nil : DtAll K H [] []
  | cons {v : V} {vs : List V} {d : D} {ds : List D} : Dt K H v d → DtAll K H vs ds → DtAll K H (v :: vs) (d :: ds)
end
theorem seqT {K : PySem.W.Frag} {H H' : Hp} {a : Addr} {xs : List V} (e : Same H H') (h : SqT K H a xs) : SqT K H' a xs := by
  rcases h with (now | ⟨ob, shut⟩) | top
  · exact Or.inl (Or.inl (e _ _ now))
  · exact Or.inl (Or.inr ⟨ob, e _ _ shut⟩)
  · exact Or.inr top
section
variable {K : PySem.W.Frag} {H H' : Hp}
mutual
theorem Dt.mono (e : Same H H') : ∀ (d : D) (v : V), Dt K H v d → Dt K H' v d
  | .none, _, h => by cases h; exact .non
  | .bool b, _, h => by cases h; exact .bl b
  | .int i, _, h => by cases h; exact .int i
  | .str x, _, h => by cases h; exact .str x
  | .list ds, _, h => by
    cases h with
    | lst s a => exact .lst (e _ _ s) (DtAll.mono e ds _ a)
  | .tuple ds, _, h => by
    cases h with
    | tup s a => exact .tup (seqT e s) (DtAll.mono e ds _ a)
  | .dict _, _, h => by
    cases h with
    | nod s => exact .nod (e _ _ s)
theorem DtAll.mono (e : Same H H') : ∀ (ds : List D) (vs : List V), DtAll K H vs ds → DtAll K H' vs ds
  | [], _, h => by cases h; exact .nil
  | d :: ds, _, h => by
    cases h with
    | cons a r => exact .cons (Dt.mono e d _ a) (DtAll.mono e ds _ r)
end
theorem Dt.on {v : V} {d : D} (h : Dt K H v d) (e : Same H H') : Dt K H' v d := Dt.mono e d v h
theorem DtAll.on {v : List V} {d : List D} (h : DtAll K H v d) (e : Same H H') : DtAll K H' v d := DtAll.mono e d v h
theorem DtAll.len : ∀ {vs : List V} {ds : List D}, DtAll K H vs ds → vs.length = ds.length
  | _, [], h => by cases h; rfl
  | _, _ :: _, h => by
    cases h with
    | cons a r => exact congrArg (· + 1) r.len
theorem DtAll.at : ∀ {vs : List V} {ds : List D} {i : Nat} {d : D}, DtAll K H vs ds → ds[i]? = some d → ∃ v, vs[i]? = some v ∧ Dt K H v d
  | _, [], _, _, _, no => by simp at no
  | _, _ :: _, 0, _, h, e => by
    cases h with
    | cons a r => simp at e; subst e; exact ⟨_, rfl, a⟩
  | _, _ :: _, i + 1, _, h, e => by
    cases h with
    | cons a r =>
      obtain ⟨v, q, z⟩ := r.at (i := i) (by simpa using e)
      exact ⟨v, by simpa using q, z⟩
theorem DtAll.app : ∀ {vs ws : List V} {ds es : List D}, DtAll K H vs ds → DtAll K H ws es → DtAll K H (vs ++ ws) (ds ++ es)
  | _, _, [], _, h, q => by cases h; exact q
  | _, _, _ :: _, _, h, q => by
    cases h with
    | cons a r => exact .cons a (r.app q)
theorem DtAll.take : ∀ {vs : List V} {ds : List D} (n : Nat), DtAll K H vs ds → DtAll K H (vs.take n) (ds.take n)
  | _, _, 0, _ => .nil
  | _, [], n + 1, h => by cases h; exact .nil
  | _, _ :: _, n + 1, h => by
    cases h with
    | cons a r => exact .cons a (r.take n)
theorem DtAll.drop : ∀ {vs : List V} {ds : List D} (n : Nat), DtAll K H vs ds → DtAll K H (vs.drop n) (ds.drop n)
  | _, _, 0, h => h
  | _, [], n + 1, h => by cases h; exact .nil
  | _, _ :: _, n + 1, h => by
    cases h with
    | cons a r => exact r.drop n
theorem DtAll.bls : ∀ {vs : List V} {bs : List Bool}, DtAll K H vs (bs.map PyData.bool) → vs = bs.map V.bl
  | _, [], h => by cases h; rfl
  | _, b :: bs, h => by
    cases h with
    | cons a r => cases a; rw [r.bls]; rfl
end
section
variable {X : Cx} {σ : L2.St} {H : Hp} {pins : List (Addr × Obj)} {s : Shared}
mutual
theorem Dt.reads (I : Inv X pins σ H s) : ∀ (d : D) (v : V) (u : Value), Dt X.K H v d → RelV v u → d.hasDict = false → ∃ as, Reads s.heap u d as
  | .none, _, _, h, r, _ => by
    cases h; cases r
    exact ⟨_, Reads.none⟩
  | .bool b, _, _, h, r, _ => by
    cases h; cases r
    exact ⟨_, Reads.bool b⟩
  | .int i, _, _, h, r, _ => by
    cases h
    obtain ⟨t, rfl⟩ := r
    exact ⟨_, Reads.int i t⟩
  | .str x, _, _, h, r, _ => by
    cases h
    obtain ⟨t, rfl⟩ := r
    exact ⟨_, Reads.str x t⟩
  | .list ds, _, _, h, r, nd => by
    cases h with
    | lst hs ha =>
      cases r
      obtain ⟨us, rv, ⟨ob, n, h1, h2, _, h3⟩, _⟩ := I.list (SqL.of hs)
      obtain ⟨as, h4⟩ := Dt.readsAll I ds _ us ha rv nd
      exact ⟨_, Reads.list h1 h2 h3 h4⟩
  | .tuple ds, _, _, h, r, nd => by
    cases h with
    | tup hs ha =>
      cases r
      obtain ⟨us, rv, ⟨ob, h1, h2, n, h3⟩, _⟩ := I.tuple hs
      obtain ⟨as, h4⟩ := Dt.readsAll I ds _ us ha rv nd
      exact ⟨_, Reads.tuple h1 h2 h3 h4⟩
  | .dict _, _, _, _, _, nd => by cases nd
theorem Dt.readsAll (I : Inv X pins σ H s) : ∀ (ds : List D) (vs : List V) (us : List Value), DtAll X.K H vs ds → Vals vs us → PyData.hasDictAll ds = false → ∃ as, ReadsAll s.heap us ds as
  | [], _, _, h, r, _ => by
    cases h; cases r
    exact ⟨_, ReadsAll.nil⟩
  | d :: ds, _, _, h, r, nd => by
    have nd' := Bool.or_eq_false_iff.mp (show (d.hasDict || PyData.hasDictAll ds) = false from nd)
    cases h with
    | cons h1 h2 =>
      cases r with
      | cons r1 r2 =>
        obtain ⟨as, one⟩ := Dt.reads I d _ _ h1 r1 nd'.1
        obtain ⟨bs, more⟩ := Dt.readsAll I ds _ _ h2 r2 nd'.2
        exact ⟨_, ReadsAll.cons one more⟩
end
theorem noDict_read (I : Inv X pins σ H s) {a : Addr} (h : H a = some (.dK [])) : ∃ as, Reads s.heap (.ref a) (.dict []) as ∧ sysModules ∉ as := by
  obtain ⟨_, hs, vs, kv, o, es, ep, ho, ex, hd, _, he, _⟩ := I.hok a _ h
  cases kv
  have he' : es.toList = [] := by
    generalize es.toList = l at he
    cases he
    rfl
  refine ⟨a :: [] ++ [], Reads.dict (as := []) (bs := []) ho ex.1 hd (by rw [he']; exact .nil) (by rw [he']; exact .nil), ?_⟩
  intro q
  have e : sysModules = a := by simpa using q
  rw [← e] at hs
  simp at hs
end

/-! ### the readings of pure code -/
def Er (K : PySem.W.Frag) (H : Hp) (σ : L2.St) (δ : En) : Prop := σ.length = δ.length ∧ ∀ (i : Nat) (d : D), δ[i]? = some (some d) → ∃ v, σ[i]? = some (some v) ∧ Dt K H v d
theorem Er.on {K : PySem.W.Frag} {H H' : Hp} {σ : L2.St} {δ : En} (h : Er K H σ δ) (e : Same H H') : Er K H' σ δ := ⟨h.1, fun i d q => let ⟨v, a, b⟩ := h.2 i d q; ⟨v, a, b.on e⟩⟩
theorem Er.set {K : PySem.W.Frag} {H : Hp} {σ : L2.St} {δ : En} {v : V} {d : D} (h : Er K H σ δ) (i : Nat) (q : Dt K H v d) : Er K H (σ.set i (some v)) (δ.set i (some d)) := by
  refine ⟨by simpa using h.1, fun j e z => ?_⟩
  by_cases hj : j = i
  · subst hj
    by_cases hl : j < δ.length
    · rw [List.getElem?_set_self hl] at z
      cases z
      exact ⟨v, List.getElem?_set_self (by rw [h.1]; exact hl), q⟩
    · rw [List.getElem?_eq_none (by simpa using hl)] at z
      cases z
  · rw [List.getElem?_set_ne (Ne.symm hj)] at z
    obtain ⟨u, a, b⟩ := h.2 j e z
    exact ⟨u, by rw [List.getElem?_set_ne (Ne.symm hj)]; exact a, b⟩
/-- what is wanted of a value that stands for d, all that was tracked being kept -/
def Gives (K : PySem.W.Frag) (H : Hp) (d : D) (Q : VK) : Prop := ∀ v H', Same H H' → Dt K H' v d → Q v H'
theorem Gives.on {K : PySem.W.Frag} {H H' : Hp} {d : D} {Q : VK} (h : Gives K H d Q) (e : Same H H') : Gives K H' d Q := fun v H2 s q => h v H2 (e.trans s) q
theorem Gives.now {K : PySem.W.Frag} {H : Hp} {d : D} {Q : VK} {v : V} (h : Gives K H d Q) (q : Dt K H v d) : Q v H := h v H (Same.refl H) q
theorem same_new {H : Hp} {p : Addr} {o : HO} (h : H p = none) : Same H (upd H p o) := fun b x e => by
  rw [upd_ne (ne_of_none e h)]
  exact e
def tP (K : PySem.W.Frag) (g : En → Option D) : TE := fun σ H Q => ∃ δ d, Er K H σ δ ∧ g δ = some d ∧ Gives K H d Q
def tQ (K : PySem.W.Frag) (g : En → Option Bool) : TT := fun σ H Q => ∃ δ b, Er K H σ δ ∧ g δ = some b ∧ ∀ H', Same H H' → Q b H'
def tL (K : PySem.W.Frag) (g : En → Option (List D)) : TA := fun σ H Q => ∃ δ ds, Er K H σ δ ∧ g δ = some ds ∧ ∀ vs H', Same H H' → DtAll K H' vs ds → Q vs H'
inductive Out where
  | nx (δ : En)
  | rt (d : D)
/-- z: what the first slot holds; it is never stored -/
def Out.wish (K : PySem.W.Frag) (H : Hp) (E : Ends) (z : Option (Option V)) : Out → Prop
  | .nx δ => ∀ σ' H', Same H H' → Er K H' σ' δ → σ'[0]? = z → E.nx σ' H'
  | .rt d => Gives K H d E.rt
theorem wish_on {K : PySem.W.Frag} {H H' : Hp} {E : Ends} {z : Option (Option V)} {o : Out} (h : o.wish K H E z) (e : Same H H') : o.wish K H' E z := by
  cases o with
  | nx δ => exact fun σ2 H2 s2 e2 => h σ2 H2 (e.trans s2) e2
  | rt d => exact Gives.on h e
def tS (K : PySem.W.Frag) (g : En → Option Out) : TS := fun E σ H => ∃ δ o, Er K H σ δ ∧ g δ = some o ∧ o.wish K H E σ[0]?
def r1 (K : PySem.W.Frag) (g : D → Option D) : V → Hp → VK → Prop := fun x H Q => ∃ a d, Dt K H x a ∧ g a = some d ∧ Gives K H d Q
def r2 (K : PySem.W.Frag) (g : D → D → Option D) : R2 := fun x y H Q => ∃ a b d, Dt K H x a ∧ Dt K H y b ∧ g a b = some d ∧ Gives K H d Q
def rC (K : PySem.W.Frag) (g : List D → Option D) : List V → Hp → VK → Prop := fun xs H Q => ∃ as d, DtAll K H xs as ∧ g as = some d ∧ Gives K H d Q
/-- a def's promise -/
def spP (K : PySem.W.Frag) (n : Nat) (g : List D → Option D) : Sp := fun vs H Q _ => ∃ ds d, DtAll K H vs ds ∧ ds.length = n ∧ g ds = some d ∧ Gives K H d Q
theorem bnd {α β : Type} {x : Option α} {f : α → Option β} {z : β} (h : x.bind f = some z) : ∃ y, x = some y ∧ f y = some z := by
  cases x with
  | none => cases h
  | some y => exact ⟨y, rfl, h⟩
def asB : D → Option Bool
  | .bool b => some b
  | _ => none
theorem asB_some {d : D} {b : Bool} (h : asB d = some b) : d = .bool b := by
  cases d <;> first | cases h; rfl | cases h
section
variable {X : Cx} {e a b c : Expr} {es : List Expr} {pos : Pos} {ga gb gc : En → Option D}
theorem imp {t t' : TE} (h : PE X e t) (w : ∀ σ H Q, t' σ H Q → t σ H Q) : PE X e t' := ⟨fun pins s σ H Q I q => h.run pins s σ H Q I (w σ H Q q)⟩
theorem impT {t t' : TT} (h : PT X e t) (w : ∀ σ H Q, t' σ H Q → t σ H Q) : PT X e t' := ⟨fun pins s σ H Q I q => h.run pins s σ H Q I (w σ H Q q)⟩
theorem impW {t t' : TT} (h : PW X e t) (w : ∀ σ H Q, t' σ H Q → t σ H Q) : PW X e t' := ⟨fun wh pins s σ H Q I q => h.run wh pins s σ H Q I (w σ H Q q)⟩
theorem impA {t t' : TA} (h : PA X es t) (w : ∀ σ H Q, t' σ H Q → t σ H Q) : PA X es t' := ⟨fun p pins s σ H Q I q => h.run p pins s σ H Q I (w σ H Q q)⟩
theorem impK {kws : List Keyword} {t t' : TA} (h : PK X kws t) (w : ∀ σ H Q, t' σ H Q → t σ H Q) : PK X kws t' := ⟨fun p pins s σ H Q I q => h.run p pins s σ H Q I (w σ H Q q)⟩
theorem impS {st : Stmt} {t t' : TS} (h : PS X st t) (w : ∀ E σ H, t' E σ H → t E σ H) : PS X st t' := ⟨fun pins s σ H E I q => h.run pins s σ H E I (w E σ H q)⟩
theorem impSs {st : List Stmt} {t t' : TS} (h : PSs X st t) (w : ∀ E σ H, t' E σ H → t E σ H) : PSs X st t' := ⟨fun pins s σ H E I q => h.run pins s σ H E I (w E σ H q)⟩
theorem impO {f : Value → Value → Sem Value} {r r' : R2} (h : OpR X f r) (w : ∀ x y H Q, r' x y H Q → r x y H Q) : OpR X f r' := fun pins s σ H x y v u Q I rx ry q => h pins s σ H x y v u Q I rx ry (w _ _ _ _ q)
theorem impU {f : Value → Sem Value} {r r' : V → Hp → VK → Prop} (h : UnR X f r) (w : ∀ x H Q, r' x H Q → r x H Q) : UnR X f r' := fun pins s σ H x v Q I rx q => h pins s σ H x v Q I rx (w _ _ _ q)
theorem impC {f : Value} {r r' : List V → Hp → VK → Prop} (h : CallR X f r) (w : ∀ x H Q, r' x H Q → r x H Q) : CallR X f r' := fun pins s σ H x v Q I rx q => h pins s σ H x v Q I rx (w _ _ _ q)

theorem p_var {i : Nat} (h : PE X e (tVar i)) : PE X e (tP X.K fun δ => (δ[i]?).join) := imp h fun σ H Q ⟨δ, d, er, g, q⟩ => by
  have g : (δ[i]?).join = some d := g
  have e1 : δ[i]? = some (some d) := by
    cases z : δ[i]? with
    | none => rw [z] at g; cases g
    | some o => rw [z] at g; exact congrArg some g
  obtain ⟨v, a, b⟩ := er.2 i d e1
  exact ⟨v, a, q.now b⟩
theorem p_c {v : V} {d : D} (h : PE X e (tC v)) (r : ∀ H, Dt X.K H v d) : PE X e (tP X.K fun _ => some d) := imp h fun σ H Q ⟨δ, d', er, g, q⟩ => by
  cases g
  exact q.now (r H)
theorem p_op {op : Operator} {g : D → D → Option D} (ho : OpR X (binaryOp op) (r2 X.K g)) (ha : PE X a (tP X.K ga)) (hb : PE X b (tP X.K gb)) : PE X (.BinOp a op b pos) (tP X.K fun δ => (ga δ).bind fun x => (gb δ).bind fun y => g x y) :=
  imp (pe_op ho ha hb) fun σ H Q ⟨δ, d, er, z, q⟩ => by
    obtain ⟨d1, e1, z⟩ := bnd z
    obtain ⟨d2, e2, z⟩ := bnd z
    exact ⟨δ, d1, er, e1, fun x H1 s1 dx => ⟨δ, d2, er.on s1, e2, fun y H2 s2 dy => ⟨d1, d2, d, dx.on s2, dy, z, q.on (s1.trans s2)⟩⟩⟩
theorem p_un {op : UnaryOp} {g : D → Option D} (ho : UnR X (unaryOp op) (r1 X.K g)) (ha : PE X a (tP X.K ga)) : PE X (.UnaryOp op a pos) (tP X.K fun δ => (ga δ).bind g) :=
  imp (pe_un ho ha) fun σ H Q ⟨δ, d, er, z, q⟩ => by
    obtain ⟨d1, e1, z⟩ := bnd z
    exact ⟨δ, d1, er, e1, fun x H1 s1 dx => ⟨d1, d, dx, z, q.on s1⟩⟩
theorem p_cmp {op : CmpOp} {g : D → D → Option D} (ho : OpR X (compareOp op) (r2 X.K g)) (ha : PE X a (tP X.K ga)) (hb : PE X b (tP X.K gb)) (hm : behindInMarks op b = false) : PE X (.Compare a [op] [b] pos) (tP X.K fun δ => (ga δ).bind fun x => (gb δ).bind fun y => g x y) :=
  imp (pe_cmpR ho ha hb hm) fun σ H Q ⟨δ, d, er, z, q⟩ => by
    obtain ⟨d1, e1, z⟩ := bnd z
    obtain ⟨d2, e2, z⟩ := bnd z
    exact ⟨δ, d1, er, e1, fun x H1 s1 dx => ⟨δ, d2, er.on s1, e2, fun y H2 s2 dy => ⟨d1, d2, d, dx.on s2, dy, z, q.on (s1.trans s2)⟩⟩⟩
/-- a value as a test -/
theorem give_bl {K : PySem.W.Frag} {H : Hp} {b : Bool} {Q : Bool → Hp → Prop} (q : ∀ H', Same H H' → Q b H') : Gives K H (.bool b) fun x H1 => ∃ c, x = .bl c ∧ Q c H1 := fun v H1 s1 dv => by
  cases dv
  exact ⟨b, rfl, q H1 s1⟩
theorem q_cmp {op : CmpOp} {g : D → D → Option D} (ho : OpR X (compareOp op) (r2 X.K g)) (ha : PE X a (tP X.K ga)) (hb : PE X b (tP X.K gb)) (hm : behindInMarks op b = false) : PT X (.Compare a [op] [b] pos) (tQ X.K fun δ => (ga δ).bind fun x => (gb δ).bind fun y => (g x y).bind asB) :=
  impT (pt_cmpR ho ha hb hm) fun σ H Q ⟨δ, d, er, z, q⟩ => by
    obtain ⟨d1, e1, z⟩ := bnd z
    obtain ⟨d2, e2, z⟩ := bnd z
    obtain ⟨d3, e3, z⟩ := bnd z
    cases asB_some z
    exact ⟨δ, d1, er, e1, fun x H1 s1 dx => ⟨δ, d2, er.on s1, e2, fun y H2 s2 dy => ⟨d1, d2, _, dx.on s2, dy, e3, (give_bl q).on (s1.trans s2)⟩⟩⟩
theorem q_val (h : PE X e (tP X.K ga)) (he : ∀ whole, isTrue e X.env whole = (do let v ← whole; standAt e.pos; holding [v] (truthy v)) := by intro _; rfl) : PT X e (tQ X.K fun δ => (ga δ).bind asB) :=
  impT (pt_val h he) fun σ H Q ⟨δ, d, er, z, q⟩ => by
    obtain ⟨d1, e1, z⟩ := bnd z
    cases asB_some z
    exact ⟨δ, _, er, e1, give_bl q⟩
/-- a op b op' c -/
def chn (g g' : D → D → Option D) (ga gb gc : En → Option D) : En → Option D := fun δ => (ga δ).bind fun x => (gb δ).bind fun y => (g x y).bind fun z => (asB z).bind fun k => if k then (gc δ).bind fun w => g' y w else some (.bool false)
theorem p_chain {op op' : CmpOp} {g g' : D → D → Option D} (ho : OpR X (compareOp op) (r2 X.K g)) (ho' : OpR X (compareOp op') (r2 X.K g')) (ha : PE X a (tP X.K ga)) (hb : PE X b (tP X.K gb)) (hc : PE X c (tP X.K gc))
    (hm : lastMarks [op, op'] [b, c] = false := by with_unfolding_all rfl) : PE X (.Compare a [op, op'] [b, c] pos) (tP X.K (chn g g' ga gb gc)) :=
  imp (pe_chain ho ho' ha hb hc hm) fun σ H Q ⟨δ, d, er, z, q⟩ => by
    obtain ⟨d1, e1, z⟩ := bnd z
    obtain ⟨d2, e2, z⟩ := bnd z
    obtain ⟨d3, e3, z⟩ := bnd z
    obtain ⟨k, e4, z⟩ := bnd z
    cases asB_some e4
    refine ⟨δ, d1, er, e1, fun x H1 s1 dx => ⟨δ, d2, er.on s1, e2, fun y H2 s2 dy => ⟨d1, d2, _, dx.on s2, dy, e3, fun w H3 s3 dw => ?_⟩⟩⟩
    cases dw
    refine ⟨k, rfl, ?_⟩
    cases k with
    | true =>
      have z : ((gc δ).bind fun w => g' d2 w) = _ := z
      obtain ⟨d5, e5, z⟩ := bnd z
      exact iteT ⟨δ, d5, er.on (s1.trans (s2.trans s3)), e5, fun w' H4 s4 dw' => ⟨d2, d5, d, dy.on (s3.trans s4), dw', z, q.on (s1.trans (s2.trans (s3.trans s4)))⟩⟩
    | false =>
      cases z
      exact iteF (q _ _ (s1.trans (s2.trans s3)) (.bl false))
theorem q_chain {op op' : CmpOp} {g g' : D → D → Option D} (ho : OpR X (compareOp op) (r2 X.K g)) (ho' : OpR X (compareOp op') (r2 X.K g')) (ha : PE X a (tP X.K ga)) (hb : PE X b (tP X.K gb)) (hc : PE X c (tP X.K gc))
    (hm : lastMarks [op, op'] [b, c] = false := by with_unfolding_all rfl) : PT X (.Compare a [op, op'] [b, c] pos) (tQ X.K fun δ => (chn g g' ga gb gc δ).bind asB) :=
  impT (pt_chain ho ho' ha hb hc hm) fun σ H Q ⟨δ, d, er, z, q⟩ => by
    obtain ⟨d0, z, zz⟩ := bnd z
    cases asB_some zz
    obtain ⟨d1, e1, z⟩ := bnd z
    obtain ⟨d2, e2, z⟩ := bnd z
    obtain ⟨d3, e3, z⟩ := bnd z
    obtain ⟨k, e4, z⟩ := bnd z
    cases asB_some e4
    refine ⟨δ, d1, er, e1, fun x H1 s1 dx => ⟨δ, d2, er.on s1, e2, fun y H2 s2 dy => ⟨d1, d2, _, dx.on s2, dy, e3, fun w H3 s3 dw => ?_⟩⟩⟩
    cases dw
    refine ⟨k, rfl, ?_⟩
    cases k with
    | true =>
      have z : ((gc δ).bind fun w => g' d2 w) = _ := z
      obtain ⟨d5, e5, z⟩ := bnd z
      exact iteT ⟨δ, d5, er.on (s1.trans (s2.trans s3)), e5, fun w' H4 s4 dw' => ⟨d2, d5, _, dy.on (s3.trans s4), dw', z, (give_bl q).on (s1.trans (s2.trans (s3.trans s4)))⟩⟩
    | false =>
      cases z
      exact iteF ⟨false, rfl, q _ (s1.trans (s2.trans s3))⟩
/-! and, or, not -/
variable {rest : List Expr}
def andV (ga gb : En → Option D) : En → Option D := fun δ => (ga δ).bind fun x => (asB x).bind fun k => if k then gb δ else some (.bool false)
def orV (ga gb : En → Option D) : En → Option D := fun δ => (ga δ).bind fun x => (asB x).bind fun k => if k then some (.bool true) else gb δ
theorem p_and (ha : PE X a (tP X.K ga)) (hb : PE X (.BoolOp .And (b :: rest) pos) (tP X.K gb)) : PE X (.BoolOp .And (a :: b :: rest) pos) (tP X.K (andV ga gb)) :=
  imp (pe_and ha hb) fun σ H Q ⟨δ, d, er, z, q⟩ => by
    obtain ⟨d1, e1, z⟩ := bnd z
    obtain ⟨k, e2, z⟩ := bnd z
    cases asB_some e2
    refine ⟨δ, _, er, e1, fun x H1 s1 dx => ?_⟩
    cases dx
    refine ⟨k, rfl, ?_⟩
    cases k with
    | true => exact iteT ⟨δ, d, er.on s1, z, q.on s1⟩
    | false => cases z; exact iteF (q _ _ s1 (.bl false))
theorem p_or (ha : PE X a (tP X.K ga)) (hb : PE X (.BoolOp .Or (b :: rest) pos) (tP X.K gb)) : PE X (.BoolOp .Or (a :: b :: rest) pos) (tP X.K (orV ga gb)) :=
  imp (pe_or ha hb) fun σ H Q ⟨δ, d, er, z, q⟩ => by
    obtain ⟨d1, e1, z⟩ := bnd z
    obtain ⟨k, e2, z⟩ := bnd z
    cases asB_some e2
    refine ⟨δ, _, er, e1, fun x H1 s1 dx => ?_⟩
    cases dx
    refine ⟨k, rfl, ?_⟩
    cases k with
    | true => cases z; exact iteT (q _ _ s1 (.bl true))
    | false => exact iteF ⟨δ, d, er.on s1, z, q.on s1⟩
theorem p_not (ha : PE X a (tP X.K ga)) : PE X (.UnaryOp .Not a pos) (tP X.K fun δ => (ga δ).bind fun x => (asB x).bind fun k => some (.bool !k)) :=
  imp (pe_not ha) fun σ H Q ⟨δ, d, er, z, q⟩ => by
    obtain ⟨d1, e1, z⟩ := bnd z
    obtain ⟨k, e2, z⟩ := bnd z
    cases asB_some e2
    cases z
    refine ⟨δ, _, er, e1, fun x H1 s1 dx => ?_⟩
    cases dx
    exact ⟨k, rfl, q _ _ s1 (.bl _)⟩
variable {qa qb : En → Option Bool}
theorem q_and (ha : PT X a (tQ X.K qa)) (hb : PW X (.BoolOp .And (b :: rest) pos) (tQ X.K qb)) : PW X (.BoolOp .And (a :: b :: rest) pos) (tQ X.K fun δ => (qa δ).bind fun k => if k then qb δ else some false) :=
  impW (pw_and ha hb) fun σ H Q ⟨δ, d, er, z, q⟩ => by
    obtain ⟨k, e1, z⟩ := bnd z
    refine ⟨δ, k, er, e1, fun H1 s1 => ?_⟩
    cases k with
    | true => exact iteT ⟨δ, d, er.on s1, z, fun H2 s2 => q H2 (s1.trans s2)⟩
    | false => cases z; exact iteF (q _ s1)
theorem q_or (ha : PT X a (tQ X.K qa)) (hb : PW X (.BoolOp .Or (b :: rest) pos) (tQ X.K qb)) : PW X (.BoolOp .Or (a :: b :: rest) pos) (tQ X.K fun δ => (qa δ).bind fun k => if k then some true else qb δ) :=
  impW (pw_or ha hb) fun σ H Q ⟨δ, d, er, z, q⟩ => by
    obtain ⟨k, e1, z⟩ := bnd z
    refine ⟨δ, k, er, e1, fun H1 s1 => ?_⟩
    cases k with
    | true => cases z; exact iteT (q _ s1)
    | false => exact iteF ⟨δ, d, er.on s1, z, fun H2 s2 => q H2 (s1.trans s2)⟩
theorem q_not (ha : PT X a (tQ X.K qa)) : PT X (.UnaryOp .Not a pos) (tQ X.K fun δ => (qa δ).bind fun k => some !k) :=
  impT (pt_not ha) fun σ H Q ⟨δ, d, er, z, q⟩ => by
    obtain ⟨k, e1, z⟩ := bnd z
    cases z
    exact ⟨δ, k, er, e1, fun H1 s1 => q H1 s1⟩
theorem p_ife (hc : PT X c (tQ X.K qa)) (ha : PE X a (tP X.K ga)) (hb : PE X b (tP X.K gb)) : PE X (.IfExp c a b pos) (tP X.K fun δ => (qa δ).bind fun k => if k then ga δ else gb δ) :=
  imp (pe_ifExp hc ha hb) fun σ H Q ⟨δ, d, er, z, q⟩ => by
    obtain ⟨k, e1, z⟩ := bnd z
    refine ⟨δ, k, er, e1, fun H1 s1 => ?_⟩
    cases k with
    | true => exact iteT ⟨δ, d, er.on s1, z, q.on s1⟩
    | false => exact iteF ⟨δ, d, er.on s1, z, q.on s1⟩
/-! lists of expressions, displays -/
variable {gl : En → Option (List D)}
theorem l_nil : PA X [] (tL X.K fun _ => some []) := impA pa_nil fun σ H Q ⟨δ, d, er, z, q⟩ => by
  cases z
  exact q [] H (Same.refl H) .nil
theorem l_cons (ha : PE X e (tP X.K ga)) (hr : PA X es (tL X.K gl)) (hs : starEach (e :: es) X.env = (false, eval e X.env) :: starEach es X.env := by rfl) : PA X (e :: es) (tL X.K fun δ => (ga δ).bind fun x => (gl δ).bind fun r => some (x :: r)) :=
  impA (pa_cons ha hr hs) fun σ H Q ⟨δ, d, er, z, q⟩ => by
    obtain ⟨d1, e1, z⟩ := bnd z
    obtain ⟨r, e2, z⟩ := bnd z
    cases z
    exact ⟨δ, d1, er, e1, fun x H1 s1 dx => ⟨δ, r, er.on s1, e2, fun xs H2 s2 dxs => q _ _ (s1.trans s2) (.cons (dx.on s2) dxs)⟩⟩
theorem k_nil : PK X [] (tL X.K fun _ => some []) := impK pk_nil fun σ H Q ⟨δ, d, er, z, q⟩ => by
  cases z
  exact q [] H (Same.refl H) .nil
theorem k_cons {kws : List Keyword} {nm : Option Str} {kpos : Pos} (ha : PE X e (tP X.K ga)) (hr : PK X kws (tL X.K gl)) : PK X (⟨nm, e, kpos⟩ :: kws) (tL X.K fun δ => (ga δ).bind fun x => (gl δ).bind fun r => some (x :: r)) :=
  impK (pk_cons ha hr) fun σ H Q ⟨δ, d, er, z, q⟩ => by
    obtain ⟨d1, e1, z⟩ := bnd z
    obtain ⟨r, e2, z⟩ := bnd z
    cases z
    exact ⟨δ, d1, er, e1, fun x H1 s1 dx => ⟨δ, r, er.on s1, e2, fun xs H2 s2 dxs => q _ _ (s1.trans s2) (.cons (dx.on s2) dxs)⟩⟩
def disp (f : List D → D) (gl : En → Option (List D)) : En → Option D := fun δ => (gl δ).bind fun r => if r.length ≤ 1000 then some (f r) else none
theorem disp_some {f : List D → D} {r : List D} {d : D} (z : (if r.length ≤ 1000 then some (f r) else none) = some d) : r.length ≤ 1000 ∧ d = f r := by
  by_cases h : r.length ≤ 1000
  · rw [if_pos h] at z; cases z; exact ⟨h, rfl⟩
  · rw [if_neg h] at z; cases z
theorem p_tup {k : Nat} (h : PA X es (tL X.K gl)) : PE X (.Tuple es k pos) (tP X.K (disp .tuple gl)) := imp (pe_tup h) fun σ H Q ⟨δ, d, er, z, q⟩ => by
  obtain ⟨r, e1, z⟩ := bnd z
  obtain ⟨hl, rfl⟩ := disp_some z
  refine ⟨δ, r, er, e1, fun xs H1 s1 dxs => ⟨?_, fun p hp => ?_⟩⟩
  · rw [dxs.len]; exact Nat.le_of_lt (small1000 hl)
  · exact q _ _ (s1.trans (same_new hp)) (.tup (SqT.of upd_same) (dxs.on (same_new hp)))
theorem p_lst (h : PA X es (tL X.K gl)) : PE X (.List es pos) (tP X.K (disp .list gl)) := imp (pe_lst h) fun σ H Q ⟨δ, d, er, z, q⟩ => by
  obtain ⟨r, e1, z⟩ := bnd z
  obtain ⟨hl, rfl⟩ := disp_some z
  refine ⟨δ, r, er, e1, fun xs H1 s1 dxs => ⟨?_, fun p hp => ?_⟩⟩
  · rw [dxs.len]; exact Nat.le_of_lt (small1000 hl)
  · exact q _ _ (s1.trans (same_new hp)) (.lst upd_same (dxs.on (same_new hp)))
/-! calls of built-ins -/
theorem p_callB {x : Str} {p : Pos} {id : String} {g : List D → Option D} (hc : CallR X (.builtin id) (rC X.K g)) (hg : Gl X x) (hm : X.mg x = none) (hv : bootBuiltins x = some (.builtin id)) (ha : PA X (e :: es) (tL X.K gl)) (hn : x ≠ "__name__" := by decide) (hdb : (x == ("__debug__" : Str)) = false := by decide)
    (he : starEach (e :: es) X.env = (false, eval e X.env) :: starEach es X.env := by rfl) (hpl : (backTo pos (starEach es X.env)).any (·.1) = false := by rfl) : PE X (.Call (.Name x p) (e :: es) [] pos) (tP X.K fun δ => (gl δ).bind g) :=
  imp (pe_callB hc hg hm hv ha hn hdb he hpl) fun σ H Q ⟨δ, d, er, z, q⟩ => by
    obtain ⟨r, e1, z⟩ := bnd z
    exact ⟨δ, r, er, e1, fun xs H1 s1 dxs => ⟨r, d, dxs, z, q.on s1⟩⟩
/-! calls of defs -/
theorem p_call {x : Str} {p : Pos} {f : Addr} {fd : FuncData} {ps : List Str} {k n : Nat} {g : List D → Option D} (F : FnOk X.prog X.w X.K X.mg X.base CX0 k f fd ps (spP X.K n g)) (hr : Room k X.A) (hg : Gl X x) (hm : X.mg x = some (.ref f)) (hk : PySem.W.keepIn X.K (.ref f) = true) (hb : Binds X.K fd ps [])
    (ha : PA X (e :: es) (tL X.K gl)) (hdb : (x == ("__debug__" : Str)) = false := by decide) (he : starEach (e :: es) X.env = (false, eval e X.env) :: starEach es X.env := by rfl) (hpl : (backTo pos (starEach es X.env)).any (·.1) = false := by rfl) :
    PE X (.Call (.Name x p) (e :: es) [] pos) (tP X.K fun δ => (gl δ).bind fun r => if r.length = n then g r else none) :=
  imp (pe_call F hr hg hm hk hb .nil pass0 ha hdb he hpl) fun σ H Q ⟨δ, d, er, z, q⟩ => by
    obtain ⟨r, e1, z⟩ := bnd z
    by_cases hn : r.length = n
    · rw [if_pos hn] at z
      refine ⟨δ, r, er, e1, fun xs H1 s1 dxs => ?_⟩
      have en : xs ++ [] = xs := List.append_nil xs
      show spP X.K n g (xs ++ []) H1 Q E0
      rw [en]
      exact ⟨r, d, dxs, hn, z, q.on s1⟩
    · rw [if_neg hn] at z; cases z
/-! statements -/
def seqO (g1 g2 : En → Option Out) : En → Option Out := fun δ => (g1 δ).bind fun o => match o with
  | .nx δ' => g2 δ'
  | .rt d => some (.rt d)
theorem s_cons {st : Stmt} {rest : List Stmt} {g1 g2 : En → Option Out} (h1 : PS X st (tS X.K g1)) (h2 : PSs X rest (tS X.K g2)) : PSs X (st :: rest) (tS X.K (seqO g1 g2)) :=
  impSs (pss_cons h1 h2) fun E σ H ⟨δ, o, er, z, q⟩ => by
    obtain ⟨o1, e1, z⟩ := bnd z
    refine ⟨δ, o1, er, e1, ?_⟩
    cases o1 with
    | nx δ' =>
      intro σ' H' s1 er' z0
      refine ⟨δ', o, er', z, ?_⟩
      rw [z0]
      exact wish_on q s1
    | rt d =>
      cases z
      exact q
theorem s_nil : PSs X [] (tS X.K fun δ => some (.nx δ)) := impSs pss_nil fun E σ H ⟨δ, o, er, z, q⟩ => by
  cases z
  exact q σ H (Same.refl H) er rfl
theorem s_ret (h : PE X e (tP X.K ga)) : PS X (.Return (some e) pos) (tS X.K fun δ => (ga δ).bind fun d => some (.rt d)) := impS (ps_ret h) fun E σ H ⟨δ, o, er, z, q⟩ => by
  obtain ⟨d, e1, z⟩ := bnd z
  cases z
  exact ⟨δ, d, er, e1, q⟩
theorem s_if {a b : List Stmt} {g1 g2 : En → Option Out} (hc : PT X c (tQ X.K qa)) (ha : PSs X a (tS X.K g1)) (hb : PSs X b (tS X.K g2)) : PS X (.If c a b pos) (tS X.K fun δ => (qa δ).bind fun k => if k then g1 δ else g2 δ) :=
  impS (ps_if hc ha hb) fun E σ H ⟨δ, o, er, z, q⟩ => by
    obtain ⟨k, e1, z⟩ := bnd z
    refine ⟨δ, k, er, e1, fun H1 s1 => ?_⟩
    have q' := wish_on q s1
    cases k with
    | true => exact iteT ⟨δ, o, er.on s1, z, q'⟩
    | false => exact iteF ⟨δ, o, er.on s1, z, q'⟩
theorem s_set {i : Nat} {x : Str} {tp : Pos} (hN : X.N.Nodup) (hi : X.N[i]? = some x) (hx : Loc X.env.scope x) (h : PE X e (tP X.K ga)) (hs : swapsWith e (some (.Name x tp)) pos.line X.env = pure false := by rfl)
    (hf : X.fn x = true ∨ X.env.scope.names.lookup x = some .local := by first | exact .inl rfl | exact .inr rfl | assumption) (h0 : i ≠ 0 := by decide) : PS X (.Assign [.Name x tp] e pos) (tS X.K fun δ => (ga δ).bind fun d => some (.nx (δ.set i (some d)))) :=
  impS (ps_set hN hi hx h hs hf) fun E σ H ⟨δ, o, er, z, q⟩ => by
    obtain ⟨d, e1, z⟩ := bnd z
    cases z
    exact ⟨δ, d, er, e1, fun v H1 s1 dv => q _ _ s1 ((er.on s1).set i dv) (List.getElem?_set_ne h0)⟩
end
end Wm

namespace Wm
open PySem PySem.Spec PyProof.Rows L2
def tyN : D → String
  | .none => "NoneType"
  | .bool _ => "bool"
  | .int _ => "int"
  | .str _ => "str"
  | .list _ => "list"
  | .tuple _ => "tuple"
  | .dict _ => "dict"
theorem Dt.ty {K : PySem.W.Frag} {H : Hp} {v : V} {d : D} (h : Dt K H v d) : TyX K H v (.type (tyN d)) := by
  cases h with
  | non => exact .base .non
  | bl b => exact .base (.bl b)
  | int i => exact .base (.int i)
  | str x => exact .base (.str x)
  | lst s a => exact .base (.lst s)
  | tup s a =>
    rcases s with (s | ⟨o, s⟩) | ⟨o, its, n, k, c, _⟩
    · exact .base (.tup s)
    · exact .fTuple s
    · exact .kTuple k c
  | nod s => exact .base (.dK s)
def isB : D → Bool
  | .bool _ => true
  | _ => false
def isI : D → Bool
  | .bool _ => true
  | .int _ => true
  | _ => false
def isS : D → Bool
  | .str _ => true
  | _ => false
def isT : D → Bool
  | .tuple _ => true
  | _ => false
theorem kB : ∀ d, kitB (tyN d) "bool" = some (isB d)
  | .none => (by decide +kernel : kitB "NoneType" "bool" = some false)
  | .bool _ => (by decide +kernel : kitB "bool" "bool" = some true)
  | .int _ => (by decide +kernel : kitB "int" "bool" = some false)
  | .str _ => (by decide +kernel : kitB "str" "bool" = some false)
  | .list _ => (by decide +kernel : kitB "list" "bool" = some false)
  | .tuple _ => (by decide +kernel : kitB "tuple" "bool" = some false)
  | .dict _ => (by decide +kernel : kitB "dict" "bool" = some false)
theorem kI : ∀ d, kitB (tyN d) "int" = some (isI d)
  | .none => (by decide +kernel : kitB "NoneType" "int" = some false)
  | .bool _ => (by decide +kernel : kitB "bool" "int" = some true)
  | .int _ => (by decide +kernel : kitB "int" "int" = some true)
  | .str _ => (by decide +kernel : kitB "str" "int" = some false)
  | .list _ => (by decide +kernel : kitB "list" "int" = some false)
  | .tuple _ => (by decide +kernel : kitB "tuple" "int" = some false)
  | .dict _ => (by decide +kernel : kitB "dict" "int" = some false)
theorem kS : ∀ d, kitB (tyN d) "str" = some (isS d)
  | .none => (by decide +kernel : kitB "NoneType" "str" = some false)
  | .bool _ => (by decide +kernel : kitB "bool" "str" = some false)
  | .int _ => (by decide +kernel : kitB "int" "str" = some false)
  | .str _ => (by decide +kernel : kitB "str" "str" = some true)
  | .list _ => (by decide +kernel : kitB "list" "str" = some false)
  | .tuple _ => (by decide +kernel : kitB "tuple" "str" = some false)
  | .dict _ => (by decide +kernel : kitB "dict" "str" = some false)
theorem kT : ∀ d, kitB (tyN d) "tuple" = some (isT d)
  | .none => (by decide +kernel : kitB "NoneType" "tuple" = some false)
  | .bool _ => (by decide +kernel : kitB "bool" "tuple" = some false)
  | .int _ => (by decide +kernel : kitB "int" "tuple" = some false)
  | .str _ => (by decide +kernel : kitB "str" "tuple" = some false)
  | .list _ => (by decide +kernel : kitB "list" "tuple" = some false)
  | .tuple _ => (by decide +kernel : kitB "tuple" "tuple" = some true)
  | .dict _ => (by decide +kernel : kitB "dict" "tuple" = some false)
section
variable {X : Cx} {e a b c : Expr} {es : List Expr} {pos : Pos} {ga gb gc : En → Option D} {gl : En → Option (List D)}
theorem p_isi {p p' : Pos} {T : Str} {Ts : String} {f : D → Bool} (hf : ∀ d, kitB (tyN d) Ts = some (f d)) (hg : Gl X "isinstance") (hm : X.mg "isinstance" = none) (hT : PE X (.Name T p') (tC (.ty Ts))) (ha : PE X e (tP X.K ga))
    (he : starEach [e, .Name T p'] X.env = (false, eval e X.env) :: starEach [.Name T p'] X.env := by rfl) (he2 : starEach [.Name T p'] X.env = (false, eval (.Name T p') X.env) :: starEach [] X.env := by rfl) (hpl : (backTo pos (starEach [.Name T p'] X.env)).any (·.1) = false := by rfl) :
    PE X (.Call (.Name "isinstance" p) [e, .Name T p'] [] pos) (tP X.K fun δ => (ga δ).bind fun d => some (.bool (f d))) :=
  imp (pe_callB call_isi hg hm (by decide +kernel) (pa_cons ha (pa_cons hT pa_nil he2) he) (by decide) (by decide) he hpl) fun σ H Q ⟨δ, d, er, z, q⟩ => by
    obtain ⟨d1, e1, z⟩ := bnd z
    cases z
    refine ⟨δ, d1, er, e1, fun x H1 s1 dx => ?_⟩
    exact ⟨x, .ty Ts, _, _, f d1, rfl, ClsV.ty Ts, dx.ty, kit_ty (hf d1), q _ _ s1 (.bl _)⟩
theorem p_isi2 {p p1 p2 pt : Pos} {k : Nat} {T U : Str} {Ts Us : String} {f g : D → Bool} (hf : ∀ d, kitB (tyN d) Ts = some (f d)) (hf2 : ∀ d, kitB (tyN d) Us = some (g d)) (hg : Gl X "isinstance") (hm : X.mg "isinstance" = none) (hT : PE X (.Name T p1) (tC (.ty Ts))) (hU : PE X (.Name U p2) (tC (.ty Us))) (ha : PE X e (tP X.K ga))
    (he : starEach [e, .Tuple [.Name T p1, .Name U p2] k pt] X.env = (false, eval e X.env) :: starEach [.Tuple [.Name T p1, .Name U p2] k pt] X.env := by rfl) (he2 : starEach [.Tuple [.Name T p1, .Name U p2] k pt] X.env = (false, eval (.Tuple [.Name T p1, .Name U p2] k pt) X.env) :: starEach [] X.env := by rfl)
    (he3 : starEach [.Name T p1, .Name U p2] X.env = (false, eval (.Name T p1) X.env) :: starEach [.Name U p2] X.env := by rfl) (he4 : starEach [.Name U p2] X.env = (false, eval (.Name U p2) X.env) :: starEach [] X.env := by rfl)
    (hpl : (backTo pos (starEach [.Tuple [.Name T p1, .Name U p2] k pt] X.env)).any (·.1) = false := by rfl) :
    PE X (.Call (.Name "isinstance" p) [e, .Tuple [.Name T p1, .Name U p2] k pt] [] pos) (tP X.K fun δ => (ga δ).bind fun d => some (.bool (f d || g d))) :=
  imp (pe_callB call_isiT hg hm (by decide +kernel) (pa_cons ha (pa_cons (pe_tup (pa_cons hT (pa_cons hU pa_nil he4) he3)) pa_nil he2) he) (by decide) (by decide) he hpl) fun σ H Q ⟨δ, d, er, z, q⟩ => by
    obtain ⟨d1, e1, z⟩ := bnd z
    cases z
    refine ⟨δ, d1, er, e1, fun x H1 s1 dx => ⟨by show 2 ≤ sizeLine; decide, fun t ht => ?_⟩⟩
    refine ⟨x, t, [.ty Ts, .ty Us], _, [.type Ts, .type Us], f d1 || g d1, rfl, upd_same, .cons (.ty Ts) (.cons (.ty Us) .nil), (dx.on (same_new ht)).ty, ?_, q _ _ (s1.trans (same_new ht)) (.bl _)⟩
    refine kitAny_cons (kit_ty (hf d1)) (fun e => ?_) (fun e => by rw [e]; rfl)
    rw [e]
    exact kitAny_cons (kit_ty (hf2 d1)) (fun e => by rw [e]; rfl) (fun e => by rw [e]; rfl)
/-! len, all -/
def lenD : List D → Option D
  | [.str z] => if z.length ≤ 1000 then some (.int z.length) else none
  | [.list ds] => some (.int ds.length)
  | [.tuple ds] => some (.int ds.length)
  | _ => none
theorem c_len : CallR X (.builtin "len") (rC X.K lenD) := impC call_len fun xs H Q ⟨as, d, h, z, q⟩ => by
  match as, z, h with
  | [.str y], z, .cons hv .nil =>
    cases hv
    by_cases hl : y.length ≤ 1000
    · simp only [lenD, if_pos hl] at z
      cases z
      exact ⟨_, y.length, rfl, ⟨Nat.le_of_lt (small1000 hl), rfl⟩, q.now (.int _)⟩
    · simp only [lenD, if_neg hl] at z
      cases z
  | [.list ds], z, .cons hv .nil =>
    cases z
    cases hv with
    | lst s a => exact ⟨_, _, rfl, .inl ⟨_, SqL.of s, rfl⟩, by rw [a.len]; exact q.now (.int _)⟩
  | [.tuple ds], z, .cons hv .nil =>
    cases z
    cases hv with
    | tup s a => exact ⟨_, _, rfl, .inr ⟨_, s, rfl⟩, by rw [a.len]; exact q.now (.int _)⟩
def bools : List D → Option (List Bool)
  | [] => some []
  | .bool b :: r => (bools r).bind fun bs => some (b :: bs)
  | _ => none
theorem bools_some : ∀ {ds : List D} {bs : List Bool}, bools ds = some bs → ds = bs.map PyData.bool
  | [], _, h => by cases h; rfl
  | .bool b :: r, bs, h => by
    obtain ⟨cs, e, h⟩ := bnd (show ((bools r).bind fun bs => some (b :: bs)) = some bs from h)
    cases h
    rw [bools_some e]
    rfl
  | .none :: _, _, h => by cases h
  | .int _ :: _, _, h => by cases h
  | .str _ :: _, _, h => by cases h
  | .list _ :: _, _, h => by cases h
  | .tuple _ :: _, _, h => by cases h
  | .dict _ :: _, _, h => by cases h
def allD : List D → Option D
  | [.list ds] => (bools ds).bind fun bs => some (.bool (bs.all id))
  | _ => none
theorem c_all (hc : X.calm = true) : CallR X (.builtin "all") (rC X.K allD) := impC (cr_all hc) fun xs H Q ⟨as, d, h, z, q⟩ => by
  match as, z, h with
  | [.list ds], z, .cons hv .nil =>
    obtain ⟨bs, e, z⟩ := bnd (show ((bools ds).bind fun bs => some (.bool (bs.all id))) = some d from z)
    cases z
    have e := bools_some e
    subst e
    cases hv with
    | lst s a => exact ⟨_, bs, rfl, by rw [← a.bls]; exact SqL.of s, q.now (.bl _)⟩
/-! comparisons -/
def strEq : D → D → Option Bool
  | .str x, .str y => some (decide (x = y))
  | _, _ => none
theorem strEq_some {x y : D} {b : Bool} (h : strEq x y = some b) : ∃ p q, x = .str p ∧ y = .str q ∧ b = decide (p = q) := by
  cases x <;> first | (cases h; done) | skip
  cases y <;> first | (cases h; done) | skip
  cases h
  exact ⟨_, _, rfl, rfl, rfl⟩
theorem dec_strV {p q : Str} : decide (V.str p = V.str q) = decide (p = q) := by
  by_cases h : p = q
  · subst h; simp
  · rw [decide_eq_false h, decide_eq_false fun z => h (V.str.inj z)]
def eqD (x y : D) : Option D := match strEq x y with
  | some b => some (.bool b)
  | none => if SeqAt.shaped x && SeqAt.shaped y then some (.bool (PyData.eqv x y)) else none
def neD (x y : D) : Option D := match strEq x y with
  | some b => some (.bool !b)
  | none => if SeqAt.shaped x && SeqAt.shaped y then some (.bool (!PyData.eqv x y)) else none
theorem noD {d : D} (h : SeqAt.shaped d = true) : d.hasDict = false := PyData.hasDict_of_canLay d (SeqAt.canLay_of_shaped h)
theorem o_eq (hu : X.A.units + 64 < cLine) : OpR X (compareOp .Eq) (r2 X.K eqD) := by
  intro pins st σ H x y v u Q J rx ry h
  obtain ⟨d1, d2, d, h1, h2, z, q⟩ := h
  unfold eqD at z
  cases hse : strEq d1 d2 with
  | some bb =>
    rw [hse] at z
    cases z
    obtain ⟨p1, p2, rfl, rfl, rfl⟩ := strEq_some hse
    cases h1; cases h2
    exact op_eq pins st σ H _ _ v u Q J rx ry ⟨rfl, by rw [dec_strV]; exact q.now (.bl _)⟩
  | none =>
  rw [hse] at z
  have z : (if (SeqAt.shaped d1 && SeqAt.shaped d2) = true then _ else none) = some d := z
  by_cases hs : (SeqAt.shaped d1 && SeqAt.shaped d2) = true
  · rw [if_pos hs] at z
    cases z
    obtain ⟨g1, g2⟩ := Bool.and_eq_true_iff.mp hs
    obtain ⟨as, a1⟩ := Dt.reads J d1 x v h1 rx (noD g1)
    obtain ⟨bs, a2⟩ := Dt.reads J d2 y u h2 ry (noD g2)
    exact SeqAt.compareEq_shaped a1 a2 g1 g2 hu ⟨.bl _, H, J, rfl, q.now (.bl _)⟩
  · rw [if_neg hs] at z; cases z
theorem o_ne (hu : X.A.units + 64 < cLine) : OpR X (compareOp .NotEq) (r2 X.K neD) := by
  intro pins st σ H x y v u Q J rx ry h
  obtain ⟨d1, d2, d, h1, h2, z, q⟩ := h
  unfold neD at z
  cases hse : strEq d1 d2 with
  | some bb =>
    rw [hse] at z
    cases z
    obtain ⟨p1, p2, rfl, rfl, rfl⟩ := strEq_some hse
    cases h1; cases h2
    exact op_ne pins st σ H _ _ v u Q J rx ry ⟨rfl, by rw [dec_strV]; exact q.now (.bl _)⟩
  | none =>
  rw [hse] at z
  have z : (if (SeqAt.shaped d1 && SeqAt.shaped d2) = true then _ else none) = some d := z
  by_cases hs : (SeqAt.shaped d1 && SeqAt.shaped d2) = true
  · rw [if_pos hs] at z
    cases z
    obtain ⟨g1, g2⟩ := Bool.and_eq_true_iff.mp hs
    obtain ⟨as, a1⟩ := Dt.reads J d1 x v h1 rx (noD g1)
    obtain ⟨bs, a2⟩ := Dt.reads J d2 y u h2 ry (noD g2)
    exact SeqAt.compareNe_shaped a1 a2 g1 g2 hu ⟨.bl _, H, J, rfl, q.now (.bl _)⟩
  · rw [if_neg hs] at z; cases z
def onI (f : Int → Int → Option D) : D → D → Option D
  | .int i, .int j => f i j
  | _, _ => none
theorem onI_some {f : Int → Int → Option D} {x y d : D} (h : onI f x y = some d) : ∃ i j, x = .int i ∧ y = .int j ∧ f i j = some d := by
  cases x <;> first | (cases h; done) | skip
  cases y <;> first | (cases h; done) | skip
  exact ⟨_, _, rfl, rfl, h⟩
theorem o_int {F : Value → Value → Sem Value} {g : Int → Int → V} {f : Int → Int → Option D} (h : OpR X F (rI0 g)) (hf : ∀ H i j d, f i j = some d → Dt X.K H (g i j) d) : OpR X F (r2 X.K (onI f)) := impO h fun x y H Q ⟨a, b, d, h1, h2, z, q⟩ => by
  obtain ⟨i, j, rfl, rfl, z⟩ := onI_some z
  cases h1; cases h2
  exact ⟨i, j, rfl, rfl, q.now (hf H i j d z)⟩
theorem o_intC {F : Value → Value → Sem Value} {C : Int → Int → Prop} {g : Int → Int → V} {f : Int → Int → Option D} (h : OpR X F (rI C g)) (hf : ∀ H i j d, f i j = some d → C i j ∧ Dt X.K H (g i j) d) : OpR X F (r2 X.K (onI f)) := impO h fun x y H Q ⟨a, b, d, h1, h2, z, q⟩ => by
  obtain ⟨i, j, rfl, rfl, z⟩ := onI_some z
  cases h1; cases h2
  exact ⟨i, j, rfl, rfl, (hf H i j d z).1, q.now (hf H i j d z).2⟩
theorem o_lt : OpR X (compareOp .Lt) (r2 X.K (onI fun i j => some (.bool (decide (i < j))))) := o_int op_lt fun _ _ _ _ h => by cases h; exact .bl _
theorem o_le : OpR X (compareOp .LtE) (r2 X.K (onI fun i j => some (.bool (decide (i ≤ j))))) := o_int op_le fun _ _ _ _ h => by cases h; exact .bl _
theorem o_gt : OpR X (compareOp .Gt) (r2 X.K (onI fun i j => some (.bool (decide (j < i))))) := o_int op_gt fun _ _ _ _ h => by cases h; exact .bl _
theorem o_ge : OpR X (compareOp .GtE) (r2 X.K (onI fun i j => some (.bool (decide (j ≤ i))))) := o_int op_ge fun _ _ _ _ h => by cases h; exact .bl _
theorem o_add : OpR X (binaryOp .Add) (r2 X.K (onI fun i j => some (.int (i + j)))) := o_int op_add fun _ _ _ _ h => by cases h; exact .int _
theorem orO {F : Value → Value → Sem Value} {r r' : R2} (h : OpR X F r) (h' : OpR X F r') : OpR X F fun x y H Q => r x y H Q ∨ r' x y H Q := fun pins st σ H x y v u Q J rx ry q => by
  rcases q with one | other
  · exact h pins st σ H x y v u Q J rx ry one
  · exact h' pins st σ H x y v u Q J rx ry other
def addD : D → D → Option D
  | .int i, .int j => some (.int (i + j))
  | .list xs, .list ys => if xs.length + ys.length ≤ 1000 then some (.list (xs ++ ys)) else none
  | .tuple xs, .tuple ys => if xs.length + ys.length ≤ 1000 then some (.tuple (xs ++ ys)) else none
  | _, _ => none
theorem o_addA : OpR X (binaryOp .Add) (r2 X.K addD) := impO (orO op_add (orO op_cat op_catA)) fun x y H Q ⟨a, b, d, h1, h2, z, q⟩ => by
  cases a <;> first | (cases z; done) | skip
  · cases b <;> first | (cases z; done) | skip
    cases z; cases h1; cases h2
    exact .inl ⟨_, _, rfl, rfl, q.now (.int _)⟩
  · cases b <;> first | (cases z; done) | skip
    rename_i xs ys
    by_cases hl : xs.length + ys.length ≤ 1000
    · simp only [addD, if_pos hl] at z
      cases z
      cases h1 with
      | lst s1 a1 => cases h2 with
        | lst s2 a2 =>
          refine .inr (.inl ⟨_, _, _, _, rfl, rfl, s1, s2, ?_, fun p hp => ?_⟩)
          · rw [a1.len, a2.len]; exact Nat.le_of_lt (small1000 hl)
          · exact q _ _ (same_new hp) (.lst upd_same ((a1.app a2).on (same_new hp)))
    · simp only [addD, if_neg hl] at z; cases z
  · cases b <;> first | (cases z; done) | skip
    rename_i xs ys
    by_cases hl : xs.length + ys.length ≤ 1000
    · simp only [addD, if_pos hl] at z
      cases z
      cases h1 with
      | tup s1 a1 => cases h2 with
        | tup s2 a2 =>
          have n1 := a1.len
          have n2 := a2.len
          refine .inr (.inr ⟨_, _, _, _, rfl, rfl, s1, s2, ?_, fun e => ?_, fun _ e => ?_, fun _ _ p hp => ?_⟩)
          · rw [n1, n2]; exact Nat.le_of_lt (small1000 hl)
          · subst e
            have : xs = [] := List.eq_nil_of_length_eq_zero n1.symm
            subst this
            exact q.now (.tup s2 a2)
          · subst e
            have : ys = [] := List.eq_nil_of_length_eq_zero n2.symm
            subst this
            exact q.now (.tup s1 (by rw [List.append_nil]; exact a1))
          · exact q _ _ (same_new hp) (.tup (SqT.of upd_same) ((a1.app a2).on (same_new hp)))
    · simp only [addD, if_neg hl] at z; cases z
theorem o_sub : OpR X (binaryOp .Sub) (r2 X.K (onI fun i j => some (.int (i - j)))) := o_int op_sub fun _ _ _ _ h => by cases h; exact .int _
def small (i : Int) : Bool := decide (-18446744073709551616 < i) && decide (i < 18446744073709551616)
theorem o_mul : OpR X (binaryOp .Mult) (r2 X.K (onI fun i j => if small i then some (.int (i * j)) else none)) := o_intC op_mul fun _ i j _ h => by
  by_cases hs : small i = true
  · rw [if_pos hs] at h
    cases h
    obtain ⟨a, b⟩ := Bool.and_eq_true_iff.mp hs
    exact ⟨.inl ⟨by have := of_decide_eq_true a; omega, by have := of_decide_eq_true b; omega⟩, .int _⟩
  · rw [if_neg hs] at h
    cases h
theorem o_pow : OpR X (binaryOp .Pow) (r2 X.K (onI fun i j => if i = 10 ∧ 0 ≤ j ∧ j ≤ 1000 then some (.int (i ^ j.toNat)) else none)) := o_intC op_pow fun _ i j _ h => by
  by_cases hs : i = 10 ∧ 0 ≤ j ∧ j ≤ 1000
  · rw [if_pos hs] at h
    cases h
    obtain ⟨rfl, a, b⟩ := hs
    exact ⟨⟨a, by omega, by decide⟩, .int _⟩
  · rw [if_neg hs] at h
    cases h
def negD : D → Option D
  | .int i => some (.int (-i))
  | _ => none
theorem u_neg : UnR X (unaryOp .USub) (r1 X.K negD) := impU un_neg fun x H Q ⟨a, d, h, z, q⟩ => by
  cases a with
  | int i => cases h; cases z; exact ⟨i, rfl, q.now (.int _)⟩
  | _ => cases z
def signIn : D → D → Option Bool
  | .str x, .str y => if x.cps.size = 1 then some (decide (x.cps.getD 0 0 ∈ y.cps.toList)) else none
  | _, _ => none
theorem signIn_some {x y : D} {b : Bool} (h : signIn x y = some b) : ∃ c z, x = .str ⟨#[c]⟩ ∧ y = .str z ∧ b = decide (c ∈ z.cps.toList) := by
  cases x <;> first | (cases h; done) | skip
  cases y <;> first | (cases h; done) | skip
  rename_i x y
  by_cases hs : x.cps.size = 1
  · simp only [signIn, if_pos hs] at h
    obtain ⟨⟨l⟩⟩ := x
    match l, hs, h with
    | [c], _, h => cases h; exact ⟨c, y, rfl, rfl, rfl⟩
  · simp only [signIn, if_neg hs] at h; cases h
theorem o_in : OpR X (compareOp .In) (r2 X.K fun x y => (signIn x y).bind fun b => some (.bool b)) := impO op_in_sign fun x y H Q ⟨a, b, d, h1, h2, z, q⟩ => by
  obtain ⟨k, e, z⟩ := bnd z
  cases z
  obtain ⟨c, w, rfl, rfl, rfl⟩ := signIn_some e
  cases h1; cases h2
  exact ⟨c, w, rfl, rfl, q.now (.bl _)⟩
theorem o_notin : OpR X (compareOp .NotIn) (r2 X.K fun x y => (signIn x y).bind fun b => some (.bool !b)) := impO op_notIn_sign fun x y H Q ⟨a, b, d, h1, h2, z, q⟩ => by
  obtain ⟨k, e, z⟩ := bnd z
  cases z
  obtain ⟨c, w, rfl, rfl, rfl⟩ := signIn_some e
  cases h1; cases h2
  exact ⟨c, w, rfl, rfl, q.now (.bl _)⟩
/-- a flat datum, a sequence of flat ones -/
def flatD : D → Option V
  | .none => some .non
  | .bool b => some (.bl b)
  | .int i => some (.int i)
  | .str x => some (.str x)
  | _ => none
theorem flatD_dt {d : D} {v : V} (h : flatD d = some v) (K : PySem.W.Frag) (H : Hp) : Dt K H v d := by
  cases d <;> cases h
  · exact .non
  · exact .bl _
  · exact .int _
  · exact .str _
theorem flatD_is {K : PySem.W.Frag} {H : Hp} {d : D} {v w : V} (h : flatD d = some v) (g : Dt K H w d) : w = v := by
  cases d <;> cases h <;> cases g <;> rfl
theorem flatD_flat {d : D} {v : V} (h : flatD d = some v) : flatV v = true := by
  cases d <;> cases h <;> rfl
def flats : List D → Option (List V)
  | [] => some []
  | d :: r => (flatD d).bind fun v => (flats r).bind fun vs => some (v :: vs)
theorem flats_is {K : PySem.W.Frag} {H : Hp} : ∀ {ds : List D} {vs ws : List V}, flats ds = some vs → DtAll K H ws ds → ws = vs
  | [], _, _, h, g => by cases h; cases g; rfl
  | d :: r, _, _, h, g => by
    obtain ⟨v, e1, h⟩ := bnd (show ((flatD d).bind fun v => (flats r).bind fun vs => some (v :: vs)) = some _ from h)
    obtain ⟨vs, e2, h⟩ := bnd h
    cases h
    cases g with
    | cons a b => rw [flatD_is e1 a, flats_is e2 b]
theorem flats_dt : ∀ {ds : List D} {vs : List V}, flats ds = some vs → ∀ (K : PySem.W.Frag) (H : Hp), DtAll K H vs ds
  | [], _, h, _, _ => by cases h; exact .nil
  | d :: r, _, h, K, H => by
    obtain ⟨v, e1, h⟩ := bnd (show ((flatD d).bind fun v => (flats r).bind fun vs => some (v :: vs)) = some _ from h)
    obtain ⟨vs, e2, h⟩ := bnd h
    cases h
    exact .cons (flatD_dt e1 K H) (flats_dt e2 K H)
theorem flats_flat : ∀ {ds : List D} {vs : List V}, flats ds = some vs → vs.all flatV = true
  | [], _, h => by cases h; rfl
  | d :: r, _, h => by
    obtain ⟨v, e1, h⟩ := bnd (show ((flatD d).bind fun v => (flats r).bind fun vs => some (v :: vs)) = some _ from h)
    obtain ⟨vs, e2, h⟩ := bnd h
    cases h
    rw [List.all_cons, flatD_flat e1, flats_flat e2]
    rfl
def items : D → Option (List D)
  | .list ds => some ds
  | .tuple ds => some ds
  | _ => none
def seqIn (neg : Bool) (x y : D) : Option D := (flatD x).bind fun v => (items y).bind fun ds => (flats ds).bind fun vs => some (.bool (if neg then !inV v vs else inV v vs))
theorem o_seq {F : Value → Value → Sem Value} {neg : Bool} (h : OpR X F (rIn X.K neg)) : OpR X F (r2 X.K (seqIn neg)) := impO h fun x y H Q ⟨a, b, d, h1, h2, z, q⟩ => by
  obtain ⟨v, e1, z⟩ := bnd z
  obtain ⟨ds, e2, z⟩ := bnd z
  obtain ⟨vs, e3, z⟩ := bnd z
  cases z
  have ex := flatD_is e1 h1
  subst ex
  cases b <;> first | (cases e2; done) | skip
  · cases e2
    cases h2 with
    | lst s g =>
      have := flats_is e3 g
      subst this
      exact ⟨_, _, rfl, .inl (SqL.of s), flatD_flat e1, flats_flat e3, q.now (.bl _)⟩
  · cases e2
    cases h2 with
    | tup s g =>
      have := flats_is e3 g
      subst this
      exact ⟨_, _, rfl, .inr s, flatD_flat e1, flats_flat e3, q.now (.bl _)⟩
/-! places -/
def ixD : D → D → Option D
  | .tuple ds, .int i => if 0 ≤ i then ds[i.toNat]? else none
  | .list ds, .int i => if 0 ≤ i then ds[i.toNat]? else none
  | _, _ => none
theorem orI {r r' : R2} (h : IxR X r) (h' : IxR X r') : IxR X fun x y H Q => r x y H Q ∨ r' x y H Q := fun value slice pins st σ H x y v u Q J rx ry q hs => by
  rcases q with one | other
  · exact h value slice pins st σ H x y v u Q J rx ry one hs
  · exact h' value slice pins st σ H x y v u Q J rx ry other hs
theorem p_ix (ha : PE X a (tP X.K ga)) (hb : PE X b (tP X.K gb)) (hs : PlainIx b) : PE X (.Subscript a b pos) (tP X.K fun δ => (ga δ).bind fun x => (gb δ).bind fun y => ixD x y) :=
  imp (pe_ix (orI ix_list ix_tup) ha hb hs) fun σ H Q ⟨δ, d, er, z, q⟩ => by
    obtain ⟨d1, e1, z⟩ := bnd z
    obtain ⟨d2, e2, z⟩ := bnd z
    refine ⟨δ, d1, er, e1, fun x H1 s1 dx => ⟨δ, d2, er.on s1, e2, fun y H2 s2 dy => ?_⟩⟩
    have dx := dx.on s2
    have q := q.on (s1.trans s2)
    have fin : ∀ (ds : List D) (i : Int) (vs : List V), (if 0 ≤ i then ds[i.toNat]? else none) = some d → DtAll X.K H2 vs ds → ∃ v, atI vs i = some v ∧ Q v H2 := fun ds i vs z all => by
      by_cases hi : 0 ≤ i
      · rw [if_pos hi] at z
        obtain ⟨v, ev, dv⟩ := all.at z
        have e : i = ((i.toNat : Nat) : Int) := by omega
        refine ⟨v, ?_, q.now dv⟩
        rw [e]
        exact atI_nat ev
      · rw [if_neg hi] at z; cases z
    cases d2 <;> first | (cases d1 <;> cases z; done) | skip
    cases d1 <;> first | (cases z; done) | skip
    · cases dy
      cases dx with
      | lst s g =>
        obtain ⟨v, ev, w⟩ := fin _ _ _ z g
        exact .inl ⟨_, _, _, v, rfl, rfl, SqL.of s, ev, w⟩
    · cases dy
      cases dx with
      | tup s g =>
        obtain ⟨v, ev, w⟩ := fin _ _ _ z g
        exact .inr ⟨_, _, _, v, rfl, rfl, s, ev, w⟩
end
end Wm

namespace Wm
open PySem PySem.Spec PyProof.Rows L2
/-! ### repr -/
def isE : D → Bool
  | .dict [] => true
  | _ => false
theorem isE_some {d : D} (h : isE d = true) : d = .dict [] := by
  cases d with
  | dict l => cases l with
    | nil => rfl
    | cons _ _ => cases h
  | _ => cases h
def shownOk (d : D) : Bool := d.showable && (decide (d.depth ≤ 60) && (decide (d.shown.length ≤ 1000) && (!d.hasDict || isE d)))
def shownD : List D → Option D
  | [d] => if shownOk d then some (.str d.shown) else none
  | _ => none
section
variable {X : Cx}
theorem c_repr (hg : X.A.guards = some []) (hu : X.A.units + 64 < cLine) : CallR X (.builtin "repr") (rC X.K shownD) := by
  intro pins s σ H ws us Q I r h
  obtain ⟨as, d, h, z, q⟩ := h
  match as, z, h with
  | [d1], z, .cons hv .nil =>
    cases r with
    | cons rx rn =>
    cases rn
    by_cases hs : shownOk d1 = true
    · simp only [shownD, if_pos hs] at z
      cases z
      obtain ⟨h1, hs⟩ := Bool.and_eq_true_iff.mp hs
      obtain ⟨h2, hs⟩ := Bool.and_eq_true_iff.mp hs
      obtain ⟨h3, h4⟩ := Bool.and_eq_true_iff.mp hs
      have h2 := of_decide_eq_true h2
      have h3 := Nat.le_of_lt (small1000 (of_decide_eq_true h3))
      have fin : ∀ {as : List Addr} (u : Value), Reads s.heap u d1 as → (d1.hasDict = true → sysModules ∉ as) → wpAny (model X.prog X.w) X.A (call (.builtin "repr") [u]) (EP X pins σ Q) X.xe s := fun {as} u rd ns => by
        have deep : ∀ a, u = .ref a → wpAny (model X.prog X.w) X.A (call (.builtin "repr") [u]) (EP X pins σ Q) X.xe s := fun a ea => by
          subst ea
          exact repr_of_reads' rd h1 ns hg (by omega) (fun _ _ e => e) (fun h' t tk hk => ⟨.str _, H, I.kept (t' := tk) hk, ⟨_, rfl⟩, q.now (.str _)⟩) h3
        cases rd with
        | none => exact PySem.P.repr_of_none ⟨.str _, H, I.tok _, ⟨_, rfl⟩, q.now (by rw [PyData.shown_none]; exact .str _)⟩
        | bool b => exact PySem.P.repr_of_bool ⟨.str _, H, I.tok _, ⟨_, rfl⟩, q.now (by rw [PyData.shown_bool]; exact .str _)⟩
        | int i t => exact PySem.P.repr_of_int (of_decide_eq_true h1) ⟨.str _, H, I.tok _, ⟨_, rfl⟩, q.now (by rw [PyData.shown_int]; exact .str _)⟩
        | str x t => exact PySem.P.repr_of_str ⟨.str _, H, I.tok _, ⟨_, rfl⟩, q.now (by rw [PyData.shown_str]; exact .str _)⟩ (by rw [PyData.shown_str] at h3; exact h3)
        | list _ _ _ _ => exact deep _ rfl
        | tuple _ _ _ _ => exact deep _ rfl
        | dict _ _ _ _ _ => exact deep _ rfl
      by_cases hd : d1.hasDict = true
      · have := isE_some (by rw [hd] at h4; exact h4)
        subst this
        cases hv with
        | nod ha =>
          cases rx
          obtain ⟨as, rd, ns⟩ := noDict_read I ha
          exact fin _ rd fun _ => ns
      · have hd : d1.hasDict = false := by cases e : d1.hasDict <;> first | rfl | exact absurd e hd
        obtain ⟨as, rd⟩ := Dt.reads I d1 _ _ hv rx hd
        exact fin _ rd fun z => by rw [hd] at z; cases z
    · simp only [shownD, if_neg hs] at z
      cases z
end
/-! ### defs that are called where nothing is being shown -/
structure FnG (P : Program) (w : World) (K : PySem.W.Frag) (mg : Str → Option Value) (base : Heap) (k : Nat) (f : Addr) (fd : FuncData) (ps : List Str) (sp : Sp) : Prop where
  len : ∀ ws G R Z, sp ws G R Z → ws.length = ps.length
  go : ∀ (A : Around) (outer : List Env) (s : Shared) (H : Hp) (args : Args) (us : List Value) (vs : List V) (Q : VK) (E : XK), Room k A → A.guards = some [] → Env0 P w K mg base A outer s H → BindsTo s fd args (ps.zip us) → Vals vs us → sp vs H Q E →
    codeAny (model P w) A (.call (.ref f) args) (CR CX0 outer P w H s Q E) s
theorem FnG.of {P : Program} {w : World} {K : PySem.W.Frag} {mg : Str → Option Value} {base : Heap} {k : Nat} {f : Addr} {fd : FuncData} {ps : List Str} {sp : Sp} (F : FnOk P w K mg base CX0 k f fd ps sp) : FnG P w K mg base k f fd ps sp :=
  ⟨F.len, fun A o s H args us vs Q E hr _ => F.run A o s H args us vs Q E hr⟩
section
variable {P : Program} {w : World} {K : PySem.W.Frag} {mg : Str → Option Value} {base : Heap}
theorem okG {x qual : Str} {st : Stmt} {f : Addr} {fd : FuncData} {N ps : List Str} {k : Nat} {sp : Sp} (F : Fun K x qual st f fd) (S : FnScope N ps (defScope st)) (len : ∀ vs H Q E, sp vs H Q E → vs.length = ps.length)
    (hbody : ∀ (cdv : Value) (A : Around) (outer : List Env) (s : Shared) (H : Hp) (vs : List V) (Q : VK) (E : XK), Room k (A.deeper (envOfC qual (defScope st) s.heap.objs.size f cdv)) → A.guards = some [] → sp vs H Q E →
      ∃ t, PSs (cxOf CX0 P w K mg base N qual (defScope st) f cdv A outer s H E).nox (defBody st) t ∧ t { nx := fun _ H' => Q .non H', rt := Q } (start N vs) H) : FnG P w K mg base (k + 1) f fd ps sp := by
  refine ⟨len, fun A outer s H args us vs Q E hr hg e0 hb r hsp => ?_⟩
  obtain ⟨c0, d0, kV, doc, pm, an, cdv, ct, s0, rfl, lk, hcd⟩ := F.ex
  have lv := len _ _ _ _ hsp
  have kin : K.In s.heap := e0.mod.kin.keeps fun b o e => (e0.bs b o e).1
  have nol : s.heap.NoLimit := e0.mod.nolimit.keeps fun b o e => (e0.bs b o e).1
  refine codeAny_call_function hr.depth (kin _ _ lk) rfl S.co S.gen rfl (PySem.W.codeRec_of kin hcd) (hb _ _ _ _ ?_)
  refine wpAny_newFunctionEnv_cells S.kind (fun y hy => ?_) fun env he s1 x => ?_
  · rcases S.par y.1 (List.of_mem_zip (show (y.1, y.2) ∈ ps.zip us from hy)).1 with z | z
    · exact Or.inl z
    · exact Or.inr ⟨z, PySem.W.cellsFrom_some _ _ _ (Or.inl z)⟩
  · subst he
    obtain ⟨t, ht, hq⟩ := hbody cdv A outer s H vs Q E (hr.deeper _) hg hsp
    have J0 : Inv (cxOf CX0 P w K mg base N qual (defScope st) f cdv A outer s H E) [] (start N vs) H s1 := inv_start S hr.hd e0 lv r x
    refine ⟨nol.keeps x.toInCall.keep, codeAny_func (wpAny_mono (ht.nox.run [] s1 (start N vs) H _ J0 hq) (fun fl s' hs => ?_) fun e s' z => z)⟩
    cases fl with
    | ret u =>
      obtain ⟨v, σ', H', J, rv, z⟩ := hs
      exact ⟨v, H', J.os, J.bare, J.base, J.hok, rv, z⟩
    | next =>
      obtain ⟨σ', H', J, z⟩ := hs
      exact ⟨V.non, H', J.os, J.bare, J.base, J.hok, rfl, z⟩
    | brk => exact (hs.choose_spec.choose_spec.2 : False).elim
    | cont => exact (hs.choose_spec.choose_spec.2 : False).elim
end
section
variable {X : Cx} {k : Nat} {f : Addr} {fd : FuncData} {ps : List Str} {sp : Sp} {x : Str} {p pos : Pos} {e : Expr} {es : List Expr} {t : TA}
theorem run_G {pins : List (Addr × Obj)} {σ : L2.St} {H : Hp} {s : Shared} {Q : VK} {us : List Value} {vs : List V} (F : FnG X.prog X.w X.K X.mg X.base k f fd ps sp) (hr : Room k X.A) (hG : X.A.guards = some []) (hb : Binds X.K fd ps [])
    (I : Inv X pins σ H s) (r : Vals vs us) (h : sp vs H Q E0) : wpAny (model X.prog X.w) X.A (call (.ref f) us) (EP X pins σ Q) X.xe s := by
  have nn : us ++ [] = us := List.append_nil us
  have lv : us.length = ps.length := r.length.symm.trans (F.len _ _ _ _ h)
  have bb := hb s us I.kIn (by rw [nn]; exact lv)
  rw [nn] at bb
  refine wpAny_call (codeAny_mono (F.go X.A X.stack s H ⟨us, []⟩ us vs Q E0 hr hG I.env0 bb r h) fun z s' hq => ?_)
  cases z with
  | error _ => exact (show False from hq).elim
  | ok fl => cases fl <;> first | exact I.after hq | exact (show False from hq).elim
theorem pe_G (F : FnG X.prog X.w X.K X.mg X.base k f fd ps sp) (hr : Room k X.A) (hG : X.A.guards = some []) (hg : Gl X x) (hm : X.mg x = some (.ref f)) (hk : PySem.W.keepIn X.K (.ref f) = true) (hb : Binds X.K fd ps [])
    (ha : PA X (e :: es) t) (hdb : (x == ("__debug__" : Str)) = false := by decide) (he : starEach (e :: es) X.env = (false, eval e X.env) :: starEach es X.env := by rfl)
    (hpl : (backTo pos (starEach es X.env)).any (·.1) = false := by rfl) : PE X (.Call (.Name x p) (e :: es) [] pos) (fun σ H Q => t σ H fun vs H1 => sp vs H1 Q E0) := by
  refine ⟨fun pins s σ H Q I h => wpAny_Call_Name_kw (ld_glob I hg hm ?_ hdb)⟩
  exact PySem.W.callWith_K (h₀ := X.base) I.ok.mod.kin hk (thn (ha.run pos pins s σ H _ I h) fun us s1 ⟨vs, H1, I1, r, q⟩ => ⟨I1.kIn, run_G F hr hG hb I1 r q⟩) he hpl
variable {gl : En → Option (List D)} {n : Nat} {g : List D → Option D}
theorem p_G (F : FnG X.prog X.w X.K X.mg X.base k f fd ps (spP X.K n g)) (hr : Room k X.A) (hG : X.A.guards = some []) (hg : Gl X x) (hm : X.mg x = some (.ref f)) (hk : PySem.W.keepIn X.K (.ref f) = true) (hb : Binds X.K fd ps [])
    (ha : PA X (e :: es) (tL X.K gl)) (hdb : (x == ("__debug__" : Str)) = false := by decide) (he : starEach (e :: es) X.env = (false, eval e X.env) :: starEach es X.env := by rfl) (hpl : (backTo pos (starEach es X.env)).any (·.1) = false := by rfl) :
    PE X (.Call (.Name x p) (e :: es) [] pos) (tP X.K fun δ => (gl δ).bind fun r => if r.length = n then g r else none) :=
  imp (pe_G F hr hG hg hm hk hb ha hdb he hpl) fun σ H Q ⟨δ, d, er, z, q⟩ => by
    obtain ⟨r, e1, z⟩ := bnd z
    by_cases hn : r.length = n
    · rw [if_pos hn] at z
      exact ⟨δ, r, er, e1, fun xs H1 s1 dxs => ⟨r, d, dxs, hn, z, q.on s1⟩⟩
    · rw [if_neg hn] at z; cases z
/-- f(k = v, ..): keywords alone; perm: the keywords' values in the parameters' order -/
theorem p_K {kws : List Keyword} {ks : List Str} {perm : List D → Option (List D)} {wp : List V → List V} {up : List Value → List Value} (F : FnOk X.prog X.w X.K X.mg X.base CX0 k f fd ps (spP X.K n g)) (hr : Room k X.A) (hg : Gl X x) (hm : X.mg x = some (.ref f)) (hk : PySem.W.keepIn X.K (.ref f) = true)
    (hb : ∀ (s : Shared) (ws : List Value), X.K.In s.heap → ws.length = ks.length → BindsTo s fd ⟨[], ks.zip ws⟩ (ps.zip (up ws))) (hv : ∀ {vs : List V} {ws : List Value}, Vals vs ws → vs.length = ks.length → Vals (wp vs) (up ws))
    (hd : ∀ {H : Hp} {vs : List V} {ds es : List D}, DtAll X.K H vs ds → perm ds = some es → vs.length = ks.length ∧ DtAll X.K H (wp vs) es)
    (hkw : PK X kws (tL X.K gl)) (hall : (backToKw pos (keywordEach kws X.env)).all (·.1.isSome) = true := by rfl) (hks : (backToKw pos (keywordEach kws X.env)).filterMap (·.1) = ks := by rfl)
    (hdb : (x == ("__debug__" : Str)) = false := by decide) (hpl : ((backTo pos (starEach [] X.env)).any (·.1) || (backToKw pos (keywordEach kws X.env)).any (·.1.isNone)) = false := by rfl) :
    PE X (.Call (.Name x p) [] kws pos) (tP X.K fun δ => (gl δ).bind fun r => (perm r).bind fun r' => if r'.length = n then g r' else none) := by
  refine ⟨fun pins s σ H Q I h => wpAny_Call_Name_kw (ld_glob I hg hm ?_ hdb)⟩
  obtain ⟨δ, d, er, z, q⟩ := h
  obtain ⟨r, e1, z⟩ := bnd z
  obtain ⟨r', e2, z⟩ := bnd z
  by_cases hn : r'.length = n
  · rw [if_pos hn] at z
    refine PySem.W.callWith_KW0 (h₀ := X.base) I.ok.mod.kin hk hall (thn (hkw.run pos pins s σ H (fun vs H1 => Same H H1 ∧ DtAll X.K H1 vs r) I ⟨δ, r, er, e1, fun vs H1 s1 dv => ⟨s1, dv⟩⟩) fun ws s2 ⟨vs, H2, I2, rz, s1, dv⟩ => ⟨I2.kIn, ?_⟩) hpl
    rw [hks]
    obtain ⟨lv, dw⟩ := hd dv e2
    show wpAny (model X.prog X.w) X.A (call (.ref f) [] (ks.zip ws)) (EP X pins σ Q) X.xe s2
    refine wpAny_call (codeAny_mono (F.run X.A X.stack s2 H2 ⟨[], ks.zip ws⟩ (up ws) (wp vs) Q E0 hr I2.env0 (hb s2 ws I2.kIn (rz.length.symm.trans lv)) (hv rz lv) ⟨r', d, dw, hn, z, q.on s1⟩) fun y s' hq => ?_)
    cases y with
    | error _ => exact (show False from hq).elim
    | ok fl => cases fl <;> first | exact I2.after hq | exact (show False from hq).elim
  · rw [if_neg hn] at z; cases z
end
end Wm

namespace Wm
open PySem PySem.Spec PyProof.Rows L2
/-! ### for over a list or a tuple -/
def loopO (i : Nat) (gb : En → Option Out) : List D → En → Option Out
  | [], δ => some (.nx δ)
  | d :: r, δ => (gb (δ.set i (some d))).bind fun o => match o with
    | .nx δ' => loopO i gb r δ'
    | .rt x => some (.rt x)
section
variable {X : Cx} {pos : Pos} {ga : En → Option D} {gb : En → Option Out} {iter : Expr} {body : List Stmt} {x : Str} {tp : Pos} {i : Nat}
/-- the loop's body from the j-th item on -/
theorem loop_run {J : It} {K : PySem.W.Frag} {E : Ends} {vs : List V} {G : Hp → Prop} (wk : Walk J vs.length G (YAt vs)) {H0 : Hp} {ds : List D} {o : Out} (hG : ∀ H, Same H0 H → G H) (all : DtAll K H0 vs ds) (h0 : i ≠ 0) {δ0 : En} {σ0 : L2.St} (ho : o.wish K H0 E σ0[0]?) (er : Er K H0 σ0 δ0) (hl : loopO i gb ds δ0 = some o) :
    ∃ W : Nat → Nat → L2.St → Hp → Prop, (∃ m, W 0 m σ0 H0) ∧ ∀ j m σ H, W j m σ H →
      (J.stop j H ∧ E.nx σ H) ∨ (J.go j H ∧ ∃ N : L2.St → Hp → Prop, (∀ σ' H', N σ' H' → ∃ m', m' < m ∧ W (j + 1) m' σ' H') ∧ ∀ x H', J.yld j H x H' → gName i x σ H' fun σ2 H2 => tS K gb { E with nx := N, ct := N, bk := E.nx } σ2 H2) := by
  have inv : ∀ (j : Nat) (d : D) (δ : En), loopO i gb (ds.drop j) δ = some o → ds[j]? = some d → ∃ o', gb (δ.set i (some d)) = some o' ∧ ((∃ δ', o' = .nx δ' ∧ loopO i gb (ds.drop (j + 1)) δ' = some o) ∨ ∃ y, o' = .rt y ∧ o = .rt y) := fun j d δ h e => by
    obtain ⟨hj, e'⟩ := List.getElem?_eq_some_iff.mp e
    rw [List.drop_eq_getElem_cons hj, e'] at h
    obtain ⟨o', e1, h⟩ := bnd (show ((gb (δ.set i (some d))).bind fun o => match o with | .nx δ' => loopO i gb (ds.drop (j + 1)) δ' | .rt x => some (.rt x)) = some o from h)
    refine ⟨o', e1, ?_⟩
    cases o' with
    | nx δ' => exact .inl ⟨δ', rfl, h⟩
    | rt y => cases h; exact .inr ⟨y, rfl, rfl⟩
  refine for_it wk (D := E) (fun j σ H => Same H0 H ∧ σ[0]? = σ0[0]? ∧ ∃ δ, Er K H σ δ ∧ loopO i gb (ds.drop j) δ = some o) ⟨Same.refl _, rfl, δ0, er, hl⟩ (fun _ _ _ _ p => hG _ p.1) (fun j v σ H H' hj p y => ?_) fun σ H p => ?_
  · obtain ⟨s0, z0, δ, er, h⟩ := p
    obtain ⟨rfl, ev⟩ := y
    have hjd : j < ds.length := by rw [← all.len]; exact hj
    have ed : ds[j]? = some ds[j] := List.getElem?_eq_getElem hjd
    obtain ⟨v', ev', dv⟩ := all.at ed
    rw [ev] at ev'
    cases ev'
    obtain ⟨o', e1, w⟩ := inv j _ δ h ed
    refine ⟨δ.set i (some ds[j]), o', er.set i (dv.on s0), e1, ?_⟩
    rcases w with ⟨δ', rfl, h'⟩ | ⟨y, rfl, rfl⟩
    · exact fun σ2 H2 s2 e2 z2 => ⟨s0.trans s2, by rw [z2, List.getElem?_set_ne h0]; exact z0, δ', e2, h'⟩
    · exact Gives.on ho s0
  · obtain ⟨s0, z0, δ, er, h⟩ := p
    rw [List.drop_eq_nil_of_le (by rw [all.len]; exact Nat.le_refl _)] at h
    cases h
    exact ho σ H s0 er z0
theorem s_for (hp : PassesOwn (model X.prog X.w) X.A X.env X.xe) (hc : X.calm = true) (hi : PE X iter (tP X.K ga)) (hN : X.N.Nodup) (hx : X.N[i]? = some x) (hl : Loc X.env.scope x) (hb : PSs X body (tS X.K gb)) (hs : ∀ x, foldedSetIterable iter X.env x = pure x := by intro _; rfl)
    (hf : X.fn x = true ∨ X.env.scope.names.lookup x = some .local := by first | exact .inl rfl | exact .inr rfl | assumption) (h0 : i ≠ 0 := by decide) : PS X (.For (.Name x tp) iter body [] pos) (tS X.K fun δ => (ga δ).bind fun d => match d with
      | .list ds => loopO i gb ds δ
      | _ => none) :=
  impS (ps_for hp hc (pi_list hi) (pg_name hN hx hl hf) hb hs) fun E σ H ⟨δ, o, er, z, q⟩ => by
    obtain ⟨d, e1, z⟩ := bnd z
    refine ⟨δ, d, er, e1, fun v H1 s1 dv => ?_⟩
    cases d with
    | list ds =>
      cases dv with
      | lst s all =>
        exact ⟨_, rfl, ⟨_, SqL.of s⟩, loop_run (K := X.K) walk_list (fun H2 s2 => s2.seq (SqL.of s)) all h0 (wish_on q s1) (er.on s1) z⟩
    | _ => cases z
theorem s_forT (hp : PassesOwn (model X.prog X.w) X.A X.env X.xe) (hc : X.calm = true) (hi : PE X iter (tP X.K ga)) (hN : X.N.Nodup) (hx : X.N[i]? = some x) (hl : Loc X.env.scope x) (hb : PSs X body (tS X.K gb)) (hs : ∀ x, foldedSetIterable iter X.env x = pure x := by intro _; rfl)
    (hf : X.fn x = true ∨ X.env.scope.names.lookup x = some .local := by first | exact .inl rfl | exact .inr rfl | assumption) (h0 : i ≠ 0 := by decide) : PS X (.For (.Name x tp) iter body [] pos) (tS X.K fun δ => (ga δ).bind fun d => match d with
      | .tuple ds => loopO i gb ds δ
      | _ => none) :=
  impS (ps_for hp hc (pi_tup hi) (pg_name hN hx hl hf) hb hs) fun E σ H ⟨δ, o, er, z, q⟩ => by
    obtain ⟨d, e1, z⟩ := bnd z
    refine ⟨δ, d, er, e1, fun v H1 s1 dv => ?_⟩
    cases d with
    | tuple ds =>
      cases dv with
      | tup s all =>
        exact ⟨_, rfl, ⟨_, s⟩, loop_run (K := X.K) walk_tup (fun H2 s2 => seqT s2 s) all h0 (wish_on q s1) (er.on s1) z⟩
    | _ => cases z
end
/-! ### comprehensions whose items are flat -/
/-- the slots of the comprehension's own names are forgotten -/
def wipeD (δ : En) : List Nat → En
  | [] => δ
  | v :: vs => (wipeD δ vs).set v none
theorem er_wipe {K : PySem.W.Frag} {H : Hp} {σ : L2.St} {δ : En} (h : Er K H σ δ) : ∀ vs : List Nat, Er K H (wipe σ vs) (wipeD δ vs)
  | [] => h
  | v :: vs => by
    have ih := er_wipe h vs
    refine ⟨by show ((wipe σ vs).set v none).length = ((wipeD δ vs).set v none).length; simpa using ih.1, fun i d e => ?_⟩
    have e : ((wipeD δ vs).set v none)[i]? = some (some d) := e
    by_cases hv : i = v
    · subst hv
      by_cases hl : i < (wipeD δ vs).length
      · rw [List.getElem?_set_self hl] at e; cases e
      · rw [List.getElem?_eq_none (by simpa using hl)] at e; cases e
    · rw [List.getElem?_set_ne (Ne.symm hv)] at e
      obtain ⟨u, a, b⟩ := ih.2 i d e
      exact ⟨u, by show ((wipe σ vs).set v none)[i]? = _; rw [List.getElem?_set_ne (Ne.symm hv)]; exact a, b⟩
/-- items kept: test, element -/
def compO (gt : En → Option Bool) (ge : En → Option D) : List En → Option (List D)
  | [] => some []
  | δ :: r => (gt δ).bind fun k => if k then (ge δ).bind fun d => (flatD d).bind fun _ => (compO gt ge r).bind fun ds => some (d :: ds) else compO gt ge r
theorem compO_drop {gt : En → Option Bool} {ge : En → Option D} {δs : List En} {j : Nat} {δ : En} {rest : List D} (h : compO gt ge (δs.drop j) = some rest) (e : δs[j]? = some δ) :
    ∃ k, gt δ = some k ∧ ((k = true ∧ ∃ d v r, ge δ = some d ∧ flatD d = some v ∧ compO gt ge (δs.drop (j + 1)) = some r ∧ rest = d :: r) ∨ (k = false ∧ compO gt ge (δs.drop (j + 1)) = some rest)) := by
  obtain ⟨hj, e'⟩ := List.getElem?_eq_some_iff.mp e
  rw [List.drop_eq_getElem_cons hj, e'] at h
  obtain ⟨k, e1, h⟩ := bnd (show ((gt δ).bind fun k => if k then (ge δ).bind fun d => (flatD d).bind fun _ => (compO gt ge (δs.drop (j + 1))).bind fun ds => some (d :: ds) else compO gt ge (δs.drop (j + 1))) = some rest from h)
  refine ⟨k, e1, ?_⟩
  cases k with
  | true =>
    obtain ⟨d, e2, h⟩ := bnd (show ((ge δ).bind fun d => (flatD d).bind fun _ => (compO gt ge (δs.drop (j + 1))).bind fun ds => some (d :: ds)) = some rest from h)
    obtain ⟨v, e3, h⟩ := bnd h
    obtain ⟨r, e4, h⟩ := bnd h
    cases h
    exact .inl ⟨rfl, d, v, r, e2, e3, e4, rfl⟩
  | false => exact .inr ⟨rfl, h⟩
theorem flats_snoc : ∀ {ds : List D} {vs : List V} {d : D} {v : V}, flats ds = some vs → flatD d = some v → flats (ds ++ [d]) = some (vs ++ [v])
  | [], _, d, v, h, g => by
    cases h
    show ((flatD d).bind fun v => (flats []).bind fun vs => some (v :: vs)) = _
    rw [g]
    rfl
  | x :: r, _, d, v, h, g => by
    obtain ⟨w, e1, h⟩ := bnd (show ((flatD x).bind fun v => (flats r).bind fun vs => some (v :: vs)) = some _ from h)
    obtain ⟨ws, e2, h⟩ := bnd h
    cases h
    show ((flatD x).bind fun v => (flats (r ++ [d])).bind fun vs => some (v :: vs)) = _
    rw [e1, flats_snoc e2 g]
    rfl
theorem comp_run {K : PySem.W.Frag} {J : It} {n : Nat} {G : Hp → Prop} {Y : Nat → Hp → V → Hp → Prop} (wk : Walk J n G Y) {g : TG} {gt : En → Option Bool} {ge : En → Option D} {vs : List Nat} {σ : L2.St} {H1 : Hp} {L : Addr} {Q : VK} {δs : List En} {full : List D}
    (hn : δs.length = n) (hfull : n ≤ 1000) (hL : H1 L = none) (hG : ∀ H, Same H1 H → G H) (hc : compO gt ge δs = some full) (q : Gives K H1 (.list full) Q)
    (hstep : ∀ i v H H', i < n → Same H1 H → Y i H v H' → Same H H' ∧ ∃ δ, δs[i]? = some δ ∧ ∀ R : L2.St → Hp → Prop, (∀ σ2 H2, Same H' H2 → Er K H2 σ2 δ → wipe σ2 vs = wipe σ vs → R σ2 H2) → g v (wipe σ vs) H' R) :
    ∃ W : Nat → Nat → Hp → Prop, (∃ m, W 0 m (upd H1 L (.lst []))) ∧ ∀ i m H, W i m H →
      (J.stop i H ∧ Q (.ref L) H) ∨ (J.go i H ∧ ∃ Nx : Hp → Prop, (∀ H', Nx H' → ∃ m', m' < m ∧ W (i + 1) m' H') ∧ ∀ x H', J.yld i H x H' → g x (wipe σ vs) H' fun σ2 H2 => wipe σ2 vs = wipe σ vs ∧ tQ K gt σ2 H2 fun b H3 =>
        if b = true then tP K ge σ2 H3 fun y H4 => ∃ acc, H4 L = some (.lst acc) ∧ acc.length < sizeLine ∧ Nx (upd H4 L (.lst (acc ++ [y]))) else Nx H3) := by
  refine lc_it wk (fun i H => Same H1 H ∧ ∃ pre acc rest, H L = some (.lst acc) ∧ flats pre = some acc ∧ pre.length ≤ i ∧ compO gt ge (δs.drop i) = some rest ∧ pre ++ rest = full)
    ⟨same_new hL, [], [], full, upd_same, rfl, Nat.le_refl _, hc, rfl⟩ (fun i H _ p => hG H p.1) (fun i v H H' hi p y => ?_) fun H p => ?_
  · obtain ⟨s0, pre, acc, rest, hA, hF, hP, hC, hE⟩ := p
    obtain ⟨s1, δ, eδ, hg⟩ := hstep i v H H' hi s0 y
    refine hg _ fun σ2 H2 s2 er ew => ⟨ew, ?_⟩
    obtain ⟨k, ek, w⟩ := compO_drop hC eδ
    refine ⟨δ, k, er, ek, fun H3 s3 => ?_⟩
    have s03 : Same H H3 := s1.trans (s2.trans s3)
    rcases w with ⟨rfl, d, u, r, e1, e2, e3, rfl⟩ | ⟨rfl, hC'⟩
    · refine iteT ⟨δ, d, er.on s3, e1, fun z H4 s4 dz => ?_⟩
      have ez := flatD_is e2 dz
      subst ez
      have hA4 : H4 L = some (.lst acc) := s4 _ _ (s03 _ _ hA)
      have la : acc.length ≤ i := by
        have := (flats_dt hF K H).len
        omega
      refine ⟨acc, hA4, small1000 (by omega), fun b o e => ?_, pre ++ [d], acc ++ [z], r, upd_same, flats_snoc hF e2, ?_, e3, ?_⟩
      · rw [upd_ne (ne_of_none e hL)]
        exact s4 _ _ (s03 _ _ (s0 _ _ e))
      · rw [List.length_append, List.length_singleton]
        omega
      · rw [← hE, List.append_assoc]; rfl
    · exact iteF ⟨s0.trans s03, pre, acc, rest, s03 _ _ hA, hF, by omega, hC', hE⟩
  · obtain ⟨s0, pre, acc, rest, hA, hF, hP, hC, hE⟩ := p
    rw [List.drop_eq_nil_of_le (by omega)] at hC
    cases hC
    rw [List.append_nil] at hE
    subst hE
    exact q _ _ s0 (.lst hA (flats_dt hF K H))
def yesQ : En → Option Bool := fun _ => some true
section
variable {X : Cx} {pos tp : Pos} {ga gb ge : En → Option D} {gt : En → Option Bool} {elt iter : Expr} {ifs : List Expr} {scope : Scope} {x y : Str} {i j : Nat}
/-- a test's judgement in a comprehension -/
theorem ts_nil : PTs X [] (tQ X.K yesQ) := ⟨fun pins s σ H Q I ⟨δ, b, er, z, q⟩ => pts_nil.run pins s σ H Q I (by cases z; exact q H (Same.refl H))⟩
theorem wipe1 {σ : L2.St} {v : V} : wipe ((wipe σ [i]).set i (some v)) [i] = wipe σ [i] := by
  show (((σ.set i none).set i (some v)).set i none) = σ.set i none
  rw [List.set_set, List.set_set]
def strEs (i : Nat) (δ : En) : D → Option (List En)
  | .str z => if z.cps.size ≤ 1000 then some (z.cps.toList.map fun c => (wipeD δ [i]).set i (some (.str ⟨#[c]⟩))) else none
  | _ => none
theorem p_lcS (hc : X.calm = true) (hN : X.N.Nodup) (hi : PE X iter (tP X.K ga)) (ok : BlkOk X.N X.env.scope scope [(x, i)])
    (hg : ∀ (s : Shared) (H : Hp) (C : Addr) (cl : List (Str × Addr)) (fp : List Addr), PG (X.blk s H scope (compEnvC scope cl C X.env) fp) (.Name x tp) (gName i))
    (ht : ∀ (s : Shared) (H : Hp) (C : Addr) (cl : List (Str × Addr)) (fp : List Addr), PTs (X.blk s H scope (compEnvC scope cl C X.env) fp) ifs (tQ X.K gt))
    (he : ∀ (s : Shared) (H : Hp) (C : Addr) (cl : List (Str × Addr)) (fp : List Addr), PE (X.blk s H scope (compEnvC scope cl C X.env) fp) elt (tP X.K ge)) (hs : ∀ x, foldedSetIterable iter X.env x = pure x := by intro _; rfl) :
    PE X (.ListComp elt [⟨.Name x tp, iter, ifs, 0⟩] scope pos) (tP X.K fun δ => (ga δ).bind fun d => (strEs i δ d).bind fun δs => (compO gt ge δs).bind fun ds => some (.list ds)) :=
  imp (pe_lc hc hN (pi_str hi) ok hg ht he hs) fun σ H Q ⟨δ, d, er, z, q⟩ => by
    obtain ⟨d1, e1, z⟩ := bnd z
    obtain ⟨δs, e2, z⟩ := bnd z
    obtain ⟨full, e3, z⟩ := bnd z
    cases z
    cases d1 <;> first | (cases e2; done) | skip
    rename_i w
    by_cases hw : w.cps.size ≤ 1000
    · simp only [strEs, if_pos hw] at e2
      cases e2
      refine ⟨δ, _, er, e1, fun v H1 s1 dv => ?_⟩
      cases dv
      refine ⟨w, rfl, fun L hL => ?_⟩
      refine comp_run (K := X.K) walk_str (by rw [List.length_map, Array.length_toList]) hw hL (fun _ _ => trivial) e3 (q.on s1) fun k v H2 H' hk s2 yy => ?_
      obtain ⟨rfl, c, ec, rfl⟩ := yy
      refine ⟨Same.refl _, (wipeD δ [i]).set i (some (.str ⟨#[c]⟩)), ?_, fun R hR => ?_⟩
      · rw [List.getElem?_map, Array.getElem?_toList, ec]; rfl
      · exact hR _ _ (Same.refl _) ((er_wipe (er.on (s1.trans s2)) [i]).set i (.str _)) wipe1
    · simp only [strEs, if_neg hw] at e2; cases e2
/-- zip of two tuples into two names -/
def zipEs (i j : Nat) (δ : En) : List D → List D → List En
  | a :: r, b :: t => (((wipeD δ [i, j]).set i (some a)).set j (some b)) :: zipEs i j δ r t
  | _, _ => []
theorem zipEs_len {δ : En} : ∀ (xs ys : List D), (zipEs i j δ xs ys).length = min xs.length ys.length
  | [], _ => by simp [zipEs]
  | _ :: _, [] => by simp [zipEs]
  | a :: r, b :: t => by
    show (zipEs i j δ r t).length + 1 = _
    rw [zipEs_len r t, List.length_cons, List.length_cons]
    omega
theorem zipEs_at {δ : En} : ∀ {xs ys : List D} {k : Nat} {a b : D}, xs[k]? = some a → ys[k]? = some b → (zipEs i j δ xs ys)[k]? = some (((wipeD δ [i, j]).set i (some a)).set j (some b))
  | [], _, _, _, _, no, _ => by simp at no
  | _ :: _, [], _, _, _, _, no => by simp at no
  | a :: r, b :: t, 0, _, _, h, g => by
    simp at h g
    subst h; subst g
    rfl
  | a :: r, b :: t, k + 1, _, _, h, g => by
    show (zipEs i j δ r t)[k]? = _
    exact zipEs_at (by simpa using h) (by simpa using g)
theorem wipe2 {σ : L2.St} {v w : V} (h : i ≠ j) : wipe (((wipe σ [i, j]).set i (some v)).set j (some w)) [i, j] = wipe σ [i, j] := by
  have c : ∀ (l : L2.St) (a b : Option V), (l.set j a).set i b = (l.set i b).set j a := fun l a b => List.set_comm _ _ h.symm
  show (((((((σ.set j none).set i none).set i (some v)).set j (some w)).set j none).set i none)) = ((σ.set j none).set i none)
  simp only [List.set_set, c]
def zipC (gt : En → Option Bool) (ge : En → Option D) (i j : Nat) (δ : En) : D → D → Option D
  | .tuple xs, .tuple ys => if xs.length ≤ 1000 then (compO gt ge (zipEs i j δ xs ys)).bind fun ds => some (.list ds) else none
  | _, _ => none
theorem zipC_some {gt : En → Option Bool} {ge : En → Option D} {δ : En} {d e z : D} (h : zipC gt ge i j δ d e = some z) : ∃ xs ys ds, d = .tuple xs ∧ e = .tuple ys ∧ xs.length ≤ 1000 ∧ compO gt ge (zipEs i j δ xs ys) = some ds ∧ z = .list ds := by
  cases d <;> first | (cases h; done) | skip
  cases e <;> first | (cases h; done) | skip
  rename_i xs ys
  by_cases hw : xs.length ≤ 1000
  · simp only [zipC, if_pos hw] at h
    obtain ⟨ds, e1, h⟩ := bnd h
    cases h
    exact ⟨xs, ys, ds, rfl, rfl, hw, e1, rfl⟩
  · simp only [zipC, if_neg hw] at h
    cases h
theorem p_lcZ {p p1 p2 ptp : Pos} {kk : Nat} {a b : Expr} (hij : i ≠ j) (hc : X.calm = true) (hN : X.N.Nodup) (hgz : Gl X "zip") (hmz : X.mg "zip" = none) (ha : PE X a (tP X.K ga)) (hb : PE X b (tP X.K gb)) (ok : BlkOk X.N X.env.scope scope [(x, i), (y, j)])
    (hg : ∀ (s : Shared) (H : Hp) (C : Addr) (cl : List (Str × Addr)) (fp : List Addr), PG (X.blk s H scope (compEnvC scope cl C X.env) fp) (.Tuple [.Name x p1, .Name y p2] kk ptp) (gTup X.K 2 (gCons (gName i) (gCons (gName j) gNil))))
    (ht : ∀ (s : Shared) (H : Hp) (C : Addr) (cl : List (Str × Addr)) (fp : List Addr), PTs (X.blk s H scope (compEnvC scope cl C X.env) fp) ifs (tQ X.K gt))
    (he : ∀ (s : Shared) (H : Hp) (C : Addr) (cl : List (Str × Addr)) (fp : List Addr), PE (X.blk s H scope (compEnvC scope cl C X.env) fp) elt (tP X.K ge)) (hs : ∀ x, foldedSetIterable (.Call (.Name "zip" p) [a, b] [] tp) X.env x = pure x := by intro _; rfl)
    (h1 : starEach [a, b] X.env = (false, eval a X.env) :: starEach [b] X.env := by rfl) (h2 : starEach [b] X.env = (false, eval b X.env) :: starEach [] X.env := by rfl) (hpl : (backTo tp (starEach [b] X.env)).any (·.1) = false := by rfl) :
    PE X (.ListComp elt [⟨.Tuple [.Name x p1, .Name y p2] kk ptp, .Call (.Name "zip" p) [a, b] [] tp, ifs, 0⟩] scope pos) (tP X.K fun δ => (ga δ).bind fun d => (gb δ).bind fun e => zipC gt ge i j δ d e) :=
  imp (pe_lc hc hN (RZ.pi_zipA hgz hmz (l_cons ha (l_cons hb l_nil h2) h1) h1 hpl) ok hg ht he hs) fun σ H Q ⟨δ, d, er, z, q⟩ => by
    obtain ⟨d1, e1, z⟩ := bnd z
    obtain ⟨d2, e2, z⟩ := bnd z
    obtain ⟨xs, ys, full, rfl, rfl, hw, e3, rfl⟩ := zipC_some z
    · skip
      refine ⟨δ, [.tuple xs, .tuple ys], er, ?_, fun vs H1 s1 dvs => ?_⟩
      · show ((ga δ).bind fun x => ((gb δ).bind fun x => (some []).bind fun r => some (x :: r)).bind fun r => some (x :: r)) = _
        rw [e1, e2]
        rfl
      · match vs, dvs with
        | _, .cons (.tup (vs := v1) (a := A) t1 a1) (.cons (.tup (vs := v2) (a := B) t2 a2) .nil) =>
        refine ⟨A, B, v1, v2, rfl, .inr ⟨t1, t2, fun L hL => ?_⟩⟩
        have wk : Walk (RZ.ItzT X.K A B) (min v1.length v2.length) (fun H => SqT X.K H A v1 ∧ SqT X.K H B v2) (YPair (fun i => v1[i]?) (fun i => v2[i]?)) := by
          refine ⟨fun i _ hi q => ?_, fun _ q => ⟨v1, v2, q.1, q.2, by omega⟩, fun i H v H' _ q y => ?_⟩
          · have g1 : i < v1.length := by omega
            have g2 : i < v2.length := by omega
            exact ⟨v1, v2, v1[i], v2[i], q.1, q.2, by simp [g1], by simp [g2]⟩
          · obtain ⟨T, x, z, g1, g2, g3, g4, g5⟩ := y
            exact ⟨T, x, z, g1, g2, g3, g4 v1 q.1, g5 v2 q.2⟩
        refine comp_run (K := X.K) wk (by rw [zipEs_len, a1.len, a2.len]) (by have := a1.len; omega) hL (fun H2 s2 => ⟨seqT s2 t1, seqT s2 t2⟩) e3 (q.on s1) fun k v H2 H' hk s2 yy => ?_
        obtain ⟨T, x1, x2, rfl, nT, rfl, g1, g2⟩ := yy
        have k1 : k < xs.length := by have := a1.len; omega
        have k2 : k < ys.length := by have := a2.len; omega
        obtain ⟨w1, u1, r1⟩ := a1.at (List.getElem?_eq_getElem k1)
        obtain ⟨w2, u2, r2⟩ := a2.at (List.getElem?_eq_getElem k2)
        have f1 : w1 = x1 := Option.some.inj (u1.symm.trans g1)
        have f2 : w2 = x2 := Option.some.inj (u2.symm.trans g2)
        subst f1
        subst f2
        have sT : Same H2 (upd H2 T (.tup [w1, w2])) := same_new nT
        refine ⟨sT, _, zipEs_at (List.getElem?_eq_getElem k1) (List.getElem?_eq_getElem k2), fun R hR => ?_⟩
        refine ⟨T, [w1, w2], rfl, SqT.of upd_same, rfl, w1, [w2], rfl, w2, [], rfl, rfl, ?_⟩
        refine hR _ _ (Same.refl _) ?_ (wipe2 hij)
        exact ((er_wipe (er.on (s1.trans (s2.trans sT))) [i, j]).set i (r1.on (s2.trans sT))).set j (r2.on (s2.trans sT))
/-- [..].index(e), flat items -/
def ixOf (v : V) : List V → Nat → Option Nat
  | [], _ => none
  | w :: r, n => if eqV w v then some n else ixOf v r (n + 1)
theorem ixOf_some {v : V} : ∀ {l : List V} {n m : Nat}, ixOf v l n = some m → ∃ j z, m = n + j ∧ l[j]? = some z ∧ eqV z v = true ∧ ∀ k z', k < j → l[k]? = some z' → eqV z' v = false
  | [], _, _, h => by cases h
  | w :: r, n, m, h => by
    unfold ixOf at h
    by_cases hw : eqV w v = true
    · rw [if_pos hw] at h
      cases h
      exact ⟨0, w, rfl, rfl, hw, fun k z' hk => absurd hk (Nat.not_lt_zero _)⟩
    · rw [if_neg hw] at h
      obtain ⟨j, z, e, g1, g2, g3⟩ := ixOf_some h
      refine ⟨j + 1, z, by omega, by simpa using g1, g2, fun k z' hk ek => ?_⟩
      cases k with
      | zero =>
        simp at ek
        subst ek
        cases q : eqV w v
        · rfl
        · exact absurd q hw
      | succ k => exact g3 k z' (by omega) (by simpa using ek)
def indexD (x : D) : List D → Option D
  | [y] => match x with
    | .list ds => (flats ds).bind fun vs => (flatD y).bind fun v => (ixOf v vs 0).bind fun n => some (.int (n : Nat))
    | _ => none
  | _ => none
theorem indexD_some : ∀ {x : D} {r : List D} {d : D}, indexD x r = some d → ∃ ds y vs u n, x = .list ds ∧ r = [y] ∧ flats ds = some vs ∧ flatD y = some u ∧ ixOf u vs 0 = some n ∧ d = .int (n : Nat)
  | .list ds, [y], d, h => by
    obtain ⟨vs, e3, z⟩ := bnd (show ((flats ds).bind fun vs => (flatD y).bind fun v => (ixOf v vs 0).bind fun n => some (.int (n : Nat))) = some d from h)
    obtain ⟨u, e4, z⟩ := bnd z
    obtain ⟨n, e5, z⟩ := bnd z
    cases z
    exact ⟨ds, y, vs, u, n, rfl, rfl, e3, e4, e5, rfl⟩
  | .none, [y], d, h => by cases h
  | .bool _, [y], d, h => by cases h
  | .int _, [y], d, h => by cases h
  | .str _, [y], d, h => by cases h
  | .tuple _, [y], d, h => by cases h
  | .dict _, [y], d, h => by cases h
  | _, [], d, h => by cases h
  | _, _ :: _ :: _, d, h => by cases h
theorem p_index {o e : Expr} {apos : Pos} {ga : En → Option D} {gl : En → Option (List D)} (ho : PE X o (tP X.K ga)) (ha : PA X [e] (tL X.K gl)) (hbase : attributeBase o "index" X.env (eval o X.env) = eval o X.env := by rfl)
    (hfew : ((backTo pos (starEach [e] X.env)).all (fun x => !x.1) && (backToKw pos (keywordEach [] X.env)).all (fun x => x.1.isSome) && decide ([e].length + ([] : List Keyword).length + (if ([] : List Keyword).isEmpty then 0 else 1) < 30)) = true := by rfl)
    (hline : (apos.endLine == pos.line) = true := by rfl) (hs : starEach [e] X.env = (false, eval e X.env) :: starEach [] X.env := by rfl) (hplain : (backTo pos (starEach [] X.env)).any (·.1) = false := by rfl) :
    PE X (.Call (.Attribute o "index" apos) [e] [] pos) (tP X.K fun δ => (ga δ).bind fun x => (gl δ).bind fun r => indexD x r) :=
  imp (pe_bm PySem.F.plainAttrs_list PySem.F.slot_list_index PySem.F.type_list_index mt_index ho ha hbase hfew hline hs hplain) fun σ H Q ⟨δ, d, er, z, q⟩ => by
    obtain ⟨d1, e1, z⟩ := bnd z
    obtain ⟨r, e2, z⟩ := bnd z
    refine ⟨δ, d1, er, e1, fun v H1 s1 dv => ?_⟩
    obtain ⟨ds, y, vs, u, n, rfl, rfl, e3, e4, e5, rfl⟩ := indexD_some z
    · skip
      obtain ⟨j, z, ej, g1, g2, g3⟩ := ixOf_some e5
      cases dv with
      | lst sq all =>
        have ev := flats_is e3 all
        subst ev
        refine ⟨.inl ⟨rfl, _, SqL.of sq⟩, δ, [y], er.on s1, e2, fun ws H2 s2 dws => ?_⟩
        match ws, dws with
        | [wy], .cons dy .nil =>
          have eu := flatD_is e4 dy
          subst eu
          refine ⟨_, _, wy, j, z, rfl, rfl, SqL.of (s2 _ _ sq), flatD_flat e4, flats_flat e3, g1, g2, g3, ?_⟩
          have en : n = j := by omega
          subst en
          exact q _ _ (s1.trans s2) (.int _)
def lstEs (i : Nat) (δ : En) : D → Option (List En)
  | .list ds => if ds.length ≤ 1000 then some (ds.map fun d => (wipeD δ [i]).set i (some d)) else none
  | _ => none
theorem p_lcL (hc : X.calm = true) (hN : X.N.Nodup) (hi : PE X iter (tP X.K ga)) (ok : BlkOk X.N X.env.scope scope [(x, i)])
    (hg : ∀ (s : Shared) (H : Hp) (C : Addr) (cl : List (Str × Addr)) (fp : List Addr), PG (X.blk s H scope (compEnvC scope cl C X.env) fp) (.Name x tp) (gName i))
    (ht : ∀ (s : Shared) (H : Hp) (C : Addr) (cl : List (Str × Addr)) (fp : List Addr), PTs (X.blk s H scope (compEnvC scope cl C X.env) fp) ifs (tQ X.K gt))
    (he : ∀ (s : Shared) (H : Hp) (C : Addr) (cl : List (Str × Addr)) (fp : List Addr), PE (X.blk s H scope (compEnvC scope cl C X.env) fp) elt (tP X.K ge)) (hs : ∀ x, foldedSetIterable iter X.env x = pure x := by intro _; rfl) :
    PE X (.ListComp elt [⟨.Name x tp, iter, ifs, 0⟩] scope pos) (tP X.K fun δ => (ga δ).bind fun d => (lstEs i δ d).bind fun δs => (compO gt ge δs).bind fun ds => some (.list ds)) :=
  imp (pe_lc hc hN (pi_list hi) ok hg ht he hs) fun σ H Q ⟨δ, d, er, z, q⟩ => by
    obtain ⟨d1, e1, z⟩ := bnd z
    obtain ⟨δs, e2, z⟩ := bnd z
    obtain ⟨full, e3, z⟩ := bnd z
    cases z
    cases d1 <;> first | (cases e2; done) | skip
    rename_i ds
    by_cases hw : ds.length ≤ 1000
    · simp only [lstEs, if_pos hw] at e2
      cases e2
      refine ⟨δ, _, er, e1, fun v H1 s1 dv => ?_⟩
      cases dv with
      | lst sq all =>
      refine ⟨_, rfl, ⟨_, SqL.of sq⟩, fun L hL => ?_⟩
      refine comp_run (K := X.K) walk_list (by rw [List.length_map, all.len]) (by rw [all.len]; exact hw) hL (fun _ s2 => s2.seq (SqL.of sq)) e3 (q.on s1) fun k v H2 H' hk s2 yy => ?_
      obtain ⟨rfl, ec⟩ := yy
      have hk2 : k < ds.length := by rw [← all.len]; exact hk
      obtain ⟨u, eu, du⟩ := all.at (List.getElem?_eq_getElem hk2)
      have f1 : u = v := Option.some.inj (eu.symm.trans ec)
      subst f1
      refine ⟨Same.refl _, (wipeD δ [i]).set i (some ds[k]), ?_, fun R hR => ?_⟩
      · rw [List.getElem?_map, List.getElem?_eq_getElem hk2]; rfl
      · exact hR _ _ (Same.refl _) ((er_wipe (er.on (s1.trans s2)) [i]).set i (du.on s2)) wipe1
    · simp only [lstEs, if_neg hw] at e2; cases e2
/-- {} -/
theorem p_dict0 (h : PE X elt (fun σ H Q => ∀ p, H p = none → Q (.ref p) (upd H p (.dK [])))) : PE X elt (tP X.K fun _ => some (.dict [])) := imp h fun σ H Q ⟨δ, d, er, z, q⟩ => by
  cases z
  exact fun p hp => q _ _ (same_new hp) (.nod upd_same)
/-- for a, b in a list of pairs -/
def pairOf : D → Option (D × D)
  | .tuple l => match l with
    | a :: r => match r with
      | b :: t => match t with
        | [] => some (a, b)
        | _ :: _ => none
      | [] => none
    | [] => none
  | _ => none
theorem pairOf_some {d : D} {p : D × D} (h : pairOf d = some p) : d = .tuple [p.1, p.2] := by
  cases d with
  | tuple l =>
    cases l with
    | nil => cases h
    | cons a r => cases r with
      | nil => cases h
      | cons b t => cases t with
        | nil => cases h; rfl
        | cons _ _ => cases h
  | _ => cases h
def loop2 (i j : Nat) (gb : En → Option Out) : List D → En → Option Out
  | [], δ => some (.nx δ)
  | d :: r, δ => (pairOf d).bind fun p => (gb ((δ.set i (some p.1)).set j (some p.2))).bind fun o => match o with
    | .nx δ' => loop2 i j gb r δ'
    | .rt x => some (.rt x)
theorem loop2_cons {i j : Nat} {gb : En → Option Out} {d : D} {r : List D} {δ : En} {o : Out} (h : loop2 i j gb (d :: r) δ = some o) : ∃ a b o', d = .tuple [a, b] ∧ gb ((δ.set i (some a)).set j (some b)) = some o' ∧ ((∃ δ', o' = .nx δ' ∧ loop2 i j gb r δ' = some o) ∨ ∃ y, o' = .rt y ∧ o = .rt y) := by
  obtain ⟨p, e0, h⟩ := bnd (show ((pairOf d).bind fun p => (gb ((δ.set i (some p.1)).set j (some p.2))).bind fun o => match o with | .nx δ' => loop2 i j gb r δ' | .rt x => some (.rt x)) = some o from h)
  obtain ⟨o', e1, h⟩ := bnd h
  refine ⟨p.1, p.2, o', pairOf_some e0, e1, ?_⟩
  cases o' with
  | nx δ' => exact .inl ⟨δ', rfl, h⟩
  | rt y => cases h; exact .inr ⟨y, rfl, rfl⟩
theorem two_of {K : PySem.W.Frag} {H : Hp} {v : V} {a b : D} (h : Dt K H v (.tuple [a, b])) : ∃ t va vb, v = .ref t ∧ SqT K H t [va, vb] ∧ Dt K H va a ∧ Dt K H vb b := by
  cases h with
  | tup s all => cases all with
    | cons d1 r => cases r with
      | cons d2 r => cases r; exact ⟨_, _, _, rfl, s, d1, d2⟩
theorem s_for2 {gbo : En → Option Out} {body : List Stmt} {p1 p2 ptp : Pos} {kk : Nat} (hp : PassesOwn (model X.prog X.w) X.A X.env X.xe) (hc : X.calm = true) (hi : PE X iter (tP X.K ga)) (hg : PG X (.Tuple [.Name x p1, .Name y p2] kk ptp) (gTup X.K 2 (gCons (gName i) (gCons (gName j) gNil)))) (hb : PSs X body (tS X.K gbo)) (hs : ∀ x, foldedSetIterable iter X.env x = pure x := by intro _; rfl) (h0 : i ≠ 0 := by decide) (h0' : j ≠ 0 := by decide) :
    PS X (.For (.Tuple [.Name x p1, .Name y p2] kk ptp) iter body [] pos) (tS X.K fun δ => (ga δ).bind fun d => match d with
      | .list ds => loop2 i j gbo ds δ
      | _ => none) :=
  impS (ps_for hp hc (pi_list hi) hg hb hs) fun E σ H ⟨δ, o, er, z, q⟩ => by
    obtain ⟨d, e1, z⟩ := bnd z
    refine ⟨δ, d, er, e1, fun v H1 s1 dv => ?_⟩
    cases d with
    | list ds =>
      cases dv with
      | lst s all =>
        refine ⟨_, rfl, ⟨_, SqL.of s⟩, ?_⟩
        have q1 := wish_on q s1
        refine for_it walk_list (D := E) (fun k τ H => Same H1 H ∧ τ[0]? = σ[0]? ∧ ∃ δ, Er X.K H τ δ ∧ loop2 i j gbo (ds.drop k) δ = some o) ⟨Same.refl _, rfl, δ, er.on s1, z⟩ (fun _ _ _ _ p => p.1.seq (SqL.of s)) (fun k v τ H H' hk p yy => ?_) fun τ H p => ?_
        · obtain ⟨s0, z0, δ, er, h⟩ := p
          obtain ⟨rfl, ev⟩ := yy
          have hk2 : k < ds.length := by rw [← all.len]; exact hk
          rw [List.drop_eq_getElem_cons hk2] at h
          obtain ⟨a, b, o', ed, e2, w⟩ := loop2_cons h
          obtain ⟨u, eu, du⟩ := all.at (List.getElem?_eq_getElem hk2)
          have f1 : u = v := Option.some.inj (eu.symm.trans ev)
          subst f1
          rw [ed] at du
          obtain ⟨t, va, vb, rfl, st, da, db⟩ := two_of (du.on s0)
          refine ⟨_, _, rfl, st, rfl, va, [vb], rfl, vb, [], rfl, rfl, ?_⟩
          refine ⟨_, o', (er.set i da).set j db, e2, ?_⟩
          rcases w with ⟨δ', rfl, h'⟩ | ⟨y, rfl, rfl⟩
          · exact fun σ2 H2 s2 e2 z2 => ⟨s0.trans s2, by rw [z2, List.getElem?_set_ne h0', List.getElem?_set_ne h0]; exact z0, δ', e2, h'⟩
          · exact Gives.on q1 s0
        · obtain ⟨s0, z0, δ, er, h⟩ := p
          rw [List.drop_eq_nil_of_le (by rw [all.len]; exact Nat.le_refl _)] at h
          cases h
          exact q1 τ H s0 er z0
    | _ => cases z
end
end Wm

namespace Wm
open PySem PySem.Spec PyProof.Rows L2
def Out.val : Out → D
  | .rt d => d
  | .nx _ => .none
def startD (n : Nat) (ds : List D) : En := ds.map some ++ List.replicate (n - ds.length) none
/-- a def's function, from its body's -/
def fnD (n : Nat) (g : En → Option Out) : List D → Option D := fun ds => (g (startD n ds)).bind fun o => some o.val
theorem er_start {K : PySem.W.Frag} {H : Hp} {N : List Str} {vs : List V} {ds : List D} (all : DtAll K H vs ds) : Er K H (L2.start N vs) (startD N.length ds) := by
  have hl := all.len
  refine ⟨by simp [L2.start, startD, hl], fun i d e => ?_⟩
  unfold startD at e
  by_cases hi : i < ds.length
  · rw [List.getElem?_append_left (by simpa using hi), List.getElem?_map] at e
    cases q : ds[i]? with
    | none =>
      rw [q] at e
      cases e
    | some x =>
      rw [q] at e
      cases e
      obtain ⟨v, ev, dv⟩ := all.at q
      refine ⟨v, ?_, dv⟩
      unfold L2.start
      rw [List.getElem?_append_left (by simpa [hl] using hi), List.getElem?_map, ev]
      rfl
  · rw [List.getElem?_append_right (by simpa using hi), List.getElem?_replicate] at e
    split at e <;> cases e
theorem rd {K : PySem.W.Frag} {H : Hp} {N : List Str} {vs : List V} {ds : List D} {g : En → Option Out} {d : D} {Q : VK} (all : DtAll K H vs ds) (h : fnD N.length g ds = some d) (q : Gives K H d Q) : tS K g { nx := fun _ H' => Q .non H', rt := Q } (L2.start N vs) H := by
  obtain ⟨o, e1, h⟩ := bnd h
  cases h
  refine ⟨_, o, er_start all, e1, ?_⟩
  cases o with
  | nx δ => exact fun σ' H' s' _ _ => q .non H' s' .non
  | rt d => exact q
/-- a def as it stands behind the top -/
structure Dfn (K : PySem.W.Frag) (mg : Str → Option Value) (x : Str) (st : Stmt) (ps : List Str) : Prop where
  ex : ∃ f fd, Fun K x x st f fd ∧ mg x = some (.ref f) ∧ Binds K fd ps []
structure Cal (P : Program) (w : World) (K : PySem.W.Frag) (mg : Str → Option Value) (base : Heap) (x : Str) (st : Stmt) (k : Nat) (ps : List Str) (n : Nat) (g : List D → Option D) : Prop where
  ex : ∃ f fd, Fun K x x st f fd ∧ FnOk P w K mg base CX0 k f fd ps (spP K n g) ∧ mg x = some (.ref f) ∧ Binds K fd ps []
structure CalG (P : Program) (w : World) (K : PySem.W.Frag) (mg : Str → Option Value) (base : Heap) (x : Str) (st : Stmt) (k : Nat) (ps : List Str) (n : Nat) (g : List D → Option D) : Prop where
  ex : ∃ f fd, Fun K x x st f fd ∧ FnG P w K mg base k f fd ps (spP K n g) ∧ mg x = some (.ref f) ∧ Binds K fd ps []
section
variable {P : Program} {w : World} {K : PySem.W.Frag} {mg : Str → Option Value} {base : Heap} {x : Str} {st : Stmt} {N ps : List Str} {n k : Nat} {g : En → Option Out}
theorem mk_def (A : Dfn K mg x st ps) (S : FnScope N ps (defScope st)) (hn : ps.length = n)
    (h : ∀ (f : Addr) (cdv : Value) (A : Around) (outer : List Env) (s : Shared) (H : Hp) (E : XK), Room k (A.deeper (envOfC x (defScope st) s.heap.objs.size f cdv)) → PSs (cxOf CX0 P w K mg base N x (defScope st) f cdv A outer s H E).nox (defBody st) (tS K g)) :
    Cal P w K mg base x st (k + 1) ps n (fnD N.length g) := by
  obtain ⟨f, fd, F, m, b⟩ := A.ex
  refine ⟨f, fd, F, F.ok S (fun vs H Q E z => ?_) (fun cdv A outer s H vs Q E hr z => ?_), m, b⟩
  · obtain ⟨ds, d, all, l, _⟩ := z
    rw [all.len, l, hn]
  · obtain ⟨ds, d, all, l, e, q⟩ := z
    exact ⟨_, h f cdv A outer s H E hr, rd all e q⟩
theorem mk_defG (A : Dfn K mg x st ps) (S : FnScope N ps (defScope st)) (hn : ps.length = n)
    (h : ∀ (f : Addr) (cdv : Value) (A : Around) (outer : List Env) (s : Shared) (H : Hp) (E : XK), Room k (A.deeper (envOfC x (defScope st) s.heap.objs.size f cdv)) → A.guards = some [] → PSs (cxOf CX0 P w K mg base N x (defScope st) f cdv A outer s H E).nox (defBody st) (tS K g)) :
    CalG P w K mg base x st (k + 1) ps n (fnD N.length g) := by
  obtain ⟨f, fd, F, m, b⟩ := A.ex
  refine ⟨f, fd, F, okG F S (fun vs H Q E z => ?_) (fun cdv A outer s H vs Q E hr hG z => ?_), m, b⟩
  · obtain ⟨ds, d, all, l, _⟩ := z
    rw [all.len, l, hn]
  · obtain ⟨ds, d, all, l, e, q⟩ := z
    exact ⟨_, h f cdv A outer s H E hr hG, rd all e q⟩
end
section
variable {X : Cx} {e : Expr} {es : List Expr} {pos p : Pos} {gl : En → Option (List D)} {x : Str} {st : Stmt} {ps : List Str} {n k j : Nat} {g : List D → Option D}
theorem c_call (C : Cal X.prog X.w X.K X.mg X.base x st j ps n g) (hr : Room k X.A) (hj : j ≤ k) (hg : Gl X x) (ha : PA X (e :: es) (tL X.K gl))
    (he : starEach (e :: es) X.env = (false, eval e X.env) :: starEach es X.env := by rfl) (hpl : (backTo pos (starEach es X.env)).any (·.1) = false := by rfl) (hdb : (x == ("__debug__" : Str)) = false := by decide) :
    PE X (.Call (.Name x p) (e :: es) [] pos) (tP X.K fun δ => (gl δ).bind fun r => if r.length = n then g r else none) := by
  obtain ⟨f, fd, F, G, m, b⟩ := C.ex
  exact p_call G (hr.mono hj) hg m F.kp b ha hdb he hpl
theorem c_callG (C : CalG X.prog X.w X.K X.mg X.base x st j ps n g) (hr : Room k X.A) (hj : j ≤ k) (hG : X.A.guards = some []) (hg : Gl X x) (ha : PA X (e :: es) (tL X.K gl))
    (he : starEach (e :: es) X.env = (false, eval e X.env) :: starEach es X.env := by rfl) (hpl : (backTo pos (starEach es X.env)).any (·.1) = false := by rfl) (hdb : (x == ("__debug__" : Str)) = false := by decide) :
    PE X (.Call (.Name x p) (e :: es) [] pos) (tP X.K fun δ => (gl δ).bind fun r => if r.length = n then g r else none) := by
  obtain ⟨f, fd, F, G, m, b⟩ := C.ex
  exact p_G G (hr.mono hj) hG hg m F.kp b ha hdb he hpl
/-- keywords alone: how they bind is read off the def's own parameters -/
theorem c_callK {kws : List Keyword} {ks : List Str} {perm : List D → Option (List D)} {wp : List V → List V} {up : List Value → List Value} (C : Cal X.prog X.w X.K X.mg X.base x st j ps n g) (hr : Room k X.A) (hj : j ≤ k) (hg : Gl X x)
    (hb : ∀ (kV doc pm : Value) (an : Option Addr) (cdv ct : Value) (ws : List Value), ws.length = ks.length → bindArgs (PySem.W.fnOf x x (defArgs st) (defBody st) (defScope st) .none kV doc pm an cdv ct) ⟨[], ks.zip ws⟩ = pure (ps.zip (up ws))) (hv : ∀ {vs : List V} {ws : List Value}, Vals vs ws → vs.length = ks.length → Vals (wp vs) (up ws))
    (hd : ∀ {H : Hp} {vs : List V} {ds es : List D}, DtAll X.K H vs ds → perm ds = some es → vs.length = ks.length ∧ DtAll X.K H (wp vs) es)
    (hkw : PK X kws (tL X.K gl)) (hall : (backToKw pos (keywordEach kws X.env)).all (·.1.isSome) = true := by rfl) (hks : (backToKw pos (keywordEach kws X.env)).filterMap (·.1) = ks := by rfl)
    (hdb : (x == ("__debug__" : Str)) = false := by decide) (hpl : ((backTo pos (starEach [] X.env)).any (·.1) || (backToKw pos (keywordEach kws X.env)).any (·.1.isNone)) = false := by rfl) :
    PE X (.Call (.Name x p) [] kws pos) (tP X.K fun δ => (gl δ).bind fun r => (perm r).bind fun r' => if r'.length = n then g r' else none) := by
  obtain ⟨f, fd, F, G, m, b⟩ := C.ex
  refine p_K G (hr.mono hj) hg m F.kp (fun s ws _ hl => ?_) hv hd hkw hall hks hdb hpl
  obtain ⟨c0, d0, kV, doc, pm, an, cdv, ct, s0, rfl, lk, hcd⟩ := F.ex
  exact .of_eq (hb kV doc pm an cdv ct ws hl)
/-- the keywords' values turned about -/
def rev1 : List D → Option (List D)
  | [a] => some [a]
  | _ => none
def rev2 : List D → Option (List D)
  | [a, b] => some [b, a]
  | _ => none
def rev3 : List D → Option (List D)
  | [a, b, c] => some [c, b, a]
  | _ => none
theorem rev1_dt {K : PySem.W.Frag} {H : Hp} {vs : List V} {ds es : List D} (h : DtAll K H vs ds) (e : rev1 ds = some es) : vs.length = 1 ∧ DtAll K H vs es := by
  match ds, e, h with
  | [a], e, .cons h1 .nil => cases e; exact ⟨rfl, .cons h1 .nil⟩
theorem rev2_dt {K : PySem.W.Frag} {H : Hp} {vs : List V} {ds es : List D} (h : DtAll K H vs ds) (e : rev2 ds = some es) : vs.length = 2 ∧ DtAll K H vs.reverse es := by
  match ds, e, h with
  | [a, b], e, .cons h1 (.cons h2 .nil) => cases e; exact ⟨rfl, .cons h2 (.cons h1 .nil)⟩
theorem rev3_dt {K : PySem.W.Frag} {H : Hp} {vs : List V} {ds es : List D} (h : DtAll K H vs ds) (e : rev3 ds = some es) : vs.length = 3 ∧ DtAll K H vs.reverse es := by
  match ds, e, h with
  | [a, b, c], e, .cons h1 (.cons h2 (.cons h3 .nil)) => cases e; exact ⟨rfl, .cons h3 (.cons h2 (.cons h1 .nil))⟩
theorem rev2_v {vs : List V} {ws : List Value} (h : Vals vs ws) (l : vs.length = 2) : Vals vs.reverse ws.reverse := by
  match vs, ws, h with
  | [_, _], _, .cons h1 (.cons h2 .nil) => exact .cons h2 (.cons h1 .nil)
theorem rev3_v {vs : List V} {ws : List Value} (h : Vals vs ws) (l : vs.length = 3) : Vals vs.reverse ws.reverse := by
  match vs, ws, h with
  | [_, _, _], _, .cons h1 (.cons h2 (.cons h3 .nil)) => exact .cons h3 (.cons h2 (.cons h1 .nil))
end
end Wm

namespace Wm
open PySem PySem.Spec PyProof.Rows L2
/-! methods of texts without arguments; <= of numbers and truths -/
def strM (g : Str → Bool) : D → Option D
  | .str z => some (.bool (g z))
  | _ => none
section
variable {X : Cx} {e a b c o : Expr} {es : List Expr} {pos apos cpos : Pos} {ga gb gc : En → Option D}
theorem p_strm {name : Str} {id : String} {g : Str → Bool} (slot : Slot "str" name id) (hty : typeOf (.builtin id) = pure (.type "method_descriptor")) (hm : MtR X id (fun x xs H Q => ∃ a, x = .str a ∧ xs = [] ∧ True ∧ Q (.bl (g a)) H)) (ho : PE X o (tP X.K ga))
    (hbase : attributeBase o name X.env (eval o X.env) = eval o X.env := by rfl) (hline : (apos.endLine == cpos.line) = true := by rfl) : PE X (.Call (.Attribute o name apos) [] [] cpos) (tP X.K fun δ => (ga δ).bind (strM g)) :=
  imp (pe_bm0 PySem.F.plainAttrs_str slot hty hm ho hbase hline) fun σ H Q ⟨δ, d, er, z, q⟩ => by
    obtain ⟨d1, e1, z⟩ := bnd z
    refine ⟨δ, d1, er, e1, fun x H1 s1 dx => ?_⟩
    cases dx with
    | str s => cases z; exact ⟨rfl, s, rfl, rfl, trivial, q _ _ s1 (.bl _)⟩
    | _ => cases z
theorem g_le_bi (a : Bool) (b : Int) (u : Tok) : _root_.PySem.Gives (Builtin.«int.__le__» ⟨[.bool a, .int b u], []⟩) (.val (Value.bool (decide ((if a = true then (1 : Int) else 0) ≤ b)))) :=
  .of_wp fun M A E s Q h => by obtain ⟨hp, g, d, tk, os⟩ := s; wp_walk; exact ⟨_, rfl, h⟩
theorem g_ge_bi (a : Bool) (b : Int) (u : Tok) : _root_.PySem.Gives (Builtin.«int.__ge__» ⟨[.bool a, .int b u], []⟩) (.val (Value.bool (decide ((if a = true then (1 : Int) else 0) ≥ b)))) :=
  .of_wp fun M A E s Q h => by obtain ⟨hp, g, d, tk, os⟩ := s; wp_walk; exact ⟨_, rfl, h⟩
def numD : D → Option Int
  | .int i => some i
  | .bool b => some (if b = true then 1 else 0)
  | _ => none
def leD (x y : D) : Option D := (numD x).bind fun i => (numD y).bind fun j => some (.bool (decide (i ≤ j)))
theorem o_leD : OpR X (compareOp .LtE) (r2 X.K leD) := by
  intro pins st σ H x y v u Q J rx ry hh
  obtain ⟨a, b, d, ax, ay, e, q⟩ := hh
  obtain ⟨i, e1, e⟩ := bnd e
  obtain ⟨j, e2, e⟩ := bnd e
  cases e
  have fin : EP X pins σ Q (.bool (decide (i ≤ j))) st := ⟨.bl _, H, J, rfl, q.now (.bl _)⟩
  cases ax with
  | int a =>
    cases e1
    obtain ⟨t, rfl⟩ := rx
    cases ay with
    | int b =>
      cases e2
      obtain ⟨t', rfl⟩ := ry
      exact le_int fin
    | bl b =>
      cases e2
      cases ry
      show wpAny _ _ (richCompare .LtE _ _) _ _ _
      exact SeqAt.rc_sub_first_or (typeIs_int st i t) rfl (by decide) F.sub_bool_int F.slot_bool_ge_refl (call_gives F.slot_bool_ge_refl rfl F.entry_int_ge (F.args_int_ge_2 _ _) (g_ge_bi b i t) ⟨nofun, fin⟩) (.inl rfl)
    | _ => cases e2
  | bl a =>
    cases e1
    cases rx
    cases ay with
    | int b =>
      cases e2
      obtain ⟨t', rfl⟩ := ry
      show wpAny _ _ (richCompare .LtE _ _) _ _ _
      exact SeqAt.rc_left_or rfl (typeIs_int st j t') (by decide) F.sub_int_bool F.slot_bool_le (call_gives F.slot_bool_le rfl F.entry_int_le (F.args_int_le_2 _ _) (g_le_bi a j t') ⟨nofun, fin⟩) (.inl rfl)
    | bl b =>
      cases e2
      cases ry
      refine le_bool ?_
      have : (decide (b2i a ≤ b2i b)) = decide ((if a = true then (1 : Int) else 0) ≤ if b = true then 1 else 0) := by cases a <;> cases b <;> rfl
      rw [this]
      exact fin
    | _ => cases e2
  | _ => cases e1
end
end Wm

namespace Wm
open PySem PySem.Spec PyProof.Rows L2
def topS (i : Nat) : Stmt := PySem.Challenge.pw_waitedmeets_k01_worths_of_all_sorts.main.body.getD i (.Pass ⟨0, 0, 0, 0⟩)
def dWORDS : D := .tuple [.str "plus", .str "minus", .str "times", .str "below", .str "same"]
structure Fx (K : PySem.W.Frag) (mg : Str → Option Value) : Prop where
  z_all : mg "all" = none
  z_bool : mg "bool" = none
  z_int : mg "int" = none
  z_isinstance : mg "isinstance" = none
  z_len : mg "len" = none
  z_max : mg "max" = none
  z_min : mg "min" = none
  z_range : mg "range" = none
  z_repr : mg "repr" = none
  z_str : mg "str" = none
  z_tuple : mg "tuple" = none
  z_zip : mg "zip" = none
  h_MOST : ∃ t, mg "MOST" = some (.int 1000000000 t)
  h_LONGEST_WORD : ∃ t, mg "LONGEST_WORD" = some (.int 6 t)
  h_WORDS : ∃ a, mg "WORDS" = some (.ref a) ∧ ∀ H, Dt K H (.ref a) dWORDS
section
variable {X : Cx} {pos : Pos}
theorem Fx.c_MOST (T : Fx X.K X.mg) (hg : Gl X "MOST") : PE X (.Name "MOST" pos) (tP X.K fun _ => some (.int 1000000000)) := by
  obtain ⟨t, h⟩ := T.h_MOST
  exact p_c (v := .int 1000000000) (pe_glob hg h ⟨t, rfl⟩) fun _ => .int _
theorem Fx.c_LONGEST_WORD (T : Fx X.K X.mg) (hg : Gl X "LONGEST_WORD") : PE X (.Name "LONGEST_WORD" pos) (tP X.K fun _ => some (.int 6)) := by
  obtain ⟨t, h⟩ := T.h_LONGEST_WORD
  exact p_c (v := .int 6) (pe_glob hg h ⟨t, rfl⟩) fun _ => .int _
theorem Fx.c_WORDS (T : Fx X.K X.mg) (hg : Gl X "WORDS") : PE X (.Name "WORDS" pos) (tP X.K fun _ => some dWORDS) := by
  obtain ⟨a, h, r⟩ := T.h_WORDS
  exact p_c (v := .ref a) (pe_glob hg h rfl) r
end
section
variable {P : Program} {w : World} {K : PySem.W.Frag} {mg : Str → Option Value} {base : Heap}
abbrev st_is_word : Stmt := topS 4
theorem sc_is_word : FnScope ["thing"] ["thing"] (defScope st_is_word) := ⟨rfl, rfl, rfl, by decide +kernel, rfl, by decide +kernel, by decide +kernel⟩
def m_is_word : En → Option Out := seqO (fun δ => ((fun δ => ((fun δ => ((fun δ => ((fun δ => ((fun δ => (δ[0]?).join) δ).bind fun d => some (.bool (isS d))) δ).bind asB) δ).bind fun k => some !k) δ).bind fun k => if k then some true else (fun δ => ((fun δ => ((chn (onI fun i j => some (.bool (decide (i ≤ j)))) (onI fun i j => some (.bool (decide (i ≤ j)))) (fun _ => some (.int 1)) (fun δ => ((fun δ => ((fun δ => (δ[0]?).join) δ).bind fun x => ((fun _ => some []) δ).bind fun r => some (x :: r)) δ).bind lenD) (fun _ => some (.int 6))) δ).bind asB) δ).bind fun k => some !k) δ) δ).bind fun k => if k then (seqO (fun δ => ((fun _ => some (.bool false)) δ).bind fun d => some (.rt d)) (fun δ => some (.nx δ))) δ else (fun δ => some (.nx δ)) δ) (seqO (fun δ => ((andV (fun δ => ((fun δ => (δ[0]?).join) δ).bind (strM Txt.isascii)) (andV (fun δ => ((fun δ => (δ[0]?).join) δ).bind (strM Txt.isalpha)) (fun δ => ((fun δ => (δ[0]?).join) δ).bind (strM Txt.islower)))) δ).bind fun d => some (.rt d)) (fun δ => some (.nx δ)))
def fn_is_word : List D → Option D := fnD 1 m_is_word
theorem ok_is_word (T : Fx K mg) (A : Dfn K mg "is_word" st_is_word ["thing"]) : Cal P w K mg base "is_word" st_is_word 1 ["thing"] 1 fn_is_word :=
  mk_def A sc_is_word rfl fun f cdv A outer s H E hr => by
    have hu := hr.units
    exact s_cons (s_if ((q_or (q_not (q_val (p_isi (Ts := "str") kS (by rfl) T.z_isinstance (pe_bltn (by rfl) T.z_str (by decide +kernel) rfl) (p_var (pv 0))))) (pw_or1 (q_not (q_chain (o_le) (o_le) (p_c pe_int fun _ => .int _) (p_callB c_len (by rfl) T.z_len (by decide +kernel) (l_cons (p_var (pv 0)) (l_nil))) ((Fx.c_LONGEST_WORD T (by rfl))))))).pt) (s_cons (s_ret (p_c pe_bl fun _ => .bl _)) (s_nil)) (s_nil)) (s_cons (s_ret (p_and (p_strm PySem.F.slot_str_isascii PySem.F.type_str_isascii mt_isascii (p_var (pv 0))) (p_and (p_strm PySem.F.slot_str_isalpha PySem.F.type_str_isalpha mt_isalpha (p_var (pv 0))) (pe_one (p_strm PySem.F.slot_str_islower PySem.F.type_str_islower mt_islower (p_var (pv 0))))))) (s_nil))
abbrev st_says : Stmt := topS 5
theorem sc_says : FnScope ["thing", "word"] ["thing", "word"] (defScope st_says) := ⟨rfl, rfl, rfl, by decide +kernel, rfl, by decide +kernel, by decide +kernel⟩
def m_says : En → Option Out := seqO (fun δ => ((andV (fun δ => ((fun δ => (δ[0]?).join) δ).bind fun d => some (.bool (isS d))) (fun δ => ((fun δ => (δ[0]?).join) δ).bind fun x => ((fun δ => (δ[1]?).join) δ).bind fun y => eqD x y)) δ).bind fun d => some (.rt d)) (fun δ => some (.nx δ))
def fn_says : List D → Option D := fnD 2 m_says
theorem ok_says (T : Fx K mg) (A : Dfn K mg "says" st_says ["thing", "word"]) : Cal P w K mg base "says" st_says 1 ["thing", "word"] 2 fn_says :=
  mk_def A sc_says rfl fun f cdv A outer s H E hr => by
    have hu := hr.units
    exact s_cons (s_ret (p_and (p_isi (Ts := "str") kS (by rfl) T.z_isinstance (pe_bltn (by rfl) T.z_str (by decide +kernel) rfl) (p_var (pv 0))) (pe_one (p_cmp (o_eq hu) (p_var (pv 0)) (p_var (pv 1)) (nobehind _ (by decide) (by decide)))))) (s_nil)
abbrev st_is_whole : Stmt := topS 6
theorem sc_is_whole : FnScope ["thing"] ["thing"] (defScope st_is_whole) := ⟨rfl, rfl, rfl, by decide +kernel, rfl, by decide +kernel, by decide +kernel⟩
def m_is_whole : En → Option Out := seqO (fun δ => ((andV (fun δ => ((fun δ => (δ[0]?).join) δ).bind fun d => some (.bool (isI d))) (fun δ => ((fun δ => ((fun δ => (δ[0]?).join) δ).bind fun d => some (.bool (isB d))) δ).bind fun x => (asB x).bind fun k => some (.bool !k))) δ).bind fun d => some (.rt d)) (fun δ => some (.nx δ))
def fn_is_whole : List D → Option D := fnD 1 m_is_whole
theorem ok_is_whole (T : Fx K mg) (A : Dfn K mg "is_whole" st_is_whole ["thing"]) : Cal P w K mg base "is_whole" st_is_whole 1 ["thing"] 1 fn_is_whole :=
  mk_def A sc_is_whole rfl fun f cdv A outer s H E hr => by
    have hu := hr.units
    exact s_cons (s_ret (p_and (p_isi (Ts := "int") kI (by rfl) T.z_isinstance (pe_bltn (by rfl) T.z_int (by decide +kernel) rfl) (p_var (pv 0))) (pe_one (p_not (p_isi (Ts := "bool") kB (by rfl) T.z_isinstance (pe_bltn (by rfl) T.z_bool (by decide +kernel) rfl) (p_var (pv 0))))))) (s_nil)
abbrev st_is_whole_from : Stmt := topS 7
theorem sc_is_whole_from : FnScope ["thing", "least"] ["thing", "least"] (defScope st_is_whole_from) := ⟨rfl, rfl, rfl, by decide +kernel, rfl, by decide +kernel, by decide +kernel⟩
def m_is_whole_from : En → Option Out := seqO (fun δ => ((andV (fun δ => ((fun δ => ((fun δ => (δ[0]?).join) δ).bind fun x => ((fun _ => some []) δ).bind fun r => some (x :: r)) δ).bind fun r => if r.length = 1 then fn_is_whole r else none) (fun δ => ((fun δ => (δ[0]?).join) δ).bind fun x => ((fun δ => (δ[1]?).join) δ).bind fun y => (onI fun i j => some (.bool (decide (j ≤ i)))) x y)) δ).bind fun d => some (.rt d)) (fun δ => some (.nx δ))
def fn_is_whole_from : List D → Option D := fnD 2 m_is_whole_from
theorem ok_is_whole_from (T : Fx K mg) (A : Dfn K mg "is_whole_from" st_is_whole_from ["thing", "least"]) (C_is_whole : Cal P w K mg base "is_whole" st_is_whole 1 ["thing"] 1 fn_is_whole) : Cal P w K mg base "is_whole_from" st_is_whole_from 2 ["thing", "least"] 2 fn_is_whole_from :=
  mk_def A sc_is_whole_from rfl fun f cdv A outer s H E hr => by
    have hu := hr.units
    exact s_cons (s_ret (p_and (c_call C_is_whole hr (by decide) (by rfl) (l_cons (p_var (pv 0)) (l_nil))) (pe_one (p_cmp (o_ge) (p_var (pv 0)) (p_var (pv 1)) (nobehind _ (by decide) (by decide)))))) (s_nil)
abbrev st_is_number : Stmt := topS 8
theorem sc_is_number : FnScope ["thing"] ["thing"] (defScope st_is_number) := ⟨rfl, rfl, rfl, by decide +kernel, rfl, by decide +kernel, by decide +kernel⟩
def m_is_number : En → Option Out := seqO (fun δ => ((andV (fun δ => ((fun δ => ((fun δ => (δ[0]?).join) δ).bind fun x => ((fun _ => some []) δ).bind fun r => some (x :: r)) δ).bind fun r => if r.length = 1 then fn_is_whole r else none) (chn (onI fun i j => some (.bool (decide (i ≤ j)))) (onI fun i j => some (.bool (decide (i ≤ j)))) (fun δ => ((fun _ => some (.int 1000000000)) δ).bind negD) (fun δ => (δ[0]?).join) (fun _ => some (.int 1000000000)))) δ).bind fun d => some (.rt d)) (fun δ => some (.nx δ))
def fn_is_number : List D → Option D := fnD 1 m_is_number
theorem ok_is_number (T : Fx K mg) (A : Dfn K mg "is_number" st_is_number ["thing"]) (C_is_whole : Cal P w K mg base "is_whole" st_is_whole 1 ["thing"] 1 fn_is_whole) : Cal P w K mg base "is_number" st_is_number 2 ["thing"] 1 fn_is_number :=
  mk_def A sc_is_number rfl fun f cdv A outer s H E hr => by
    have hu := hr.units
    exact s_cons (s_ret (p_and (c_call C_is_whole hr (by decide) (by rfl) (l_cons (p_var (pv 0)) (l_nil))) (pe_one (p_chain (o_le) (o_le) (p_un u_neg ((Fx.c_MOST T (by rfl)))) (p_var (pv 0)) ((Fx.c_MOST T (by rfl))))))) (s_nil)
abbrev st_is_written : Stmt := topS 9
theorem sc_is_written : FnScope ["thing"] ["thing"] (defScope st_is_written) := ⟨rfl, rfl, rfl, by decide +kernel, rfl, by decide +kernel, by decide +kernel⟩
def m_is_written : En → Option Out := seqO (fun δ => ((andV (fun δ => ((fun δ => (δ[0]?).join) δ).bind fun d => some (.bool (isI d))) (chn leD leD (fun δ => ((fun _ => some (.int 1000000000)) δ).bind negD) (fun δ => (δ[0]?).join) (fun _ => some (.int 1000000000)))) δ).bind fun d => some (.rt d)) (fun δ => some (.nx δ))
def fn_is_written : List D → Option D := fnD 1 m_is_written
theorem ok_is_written (T : Fx K mg) (A : Dfn K mg "is_written" st_is_written ["thing"]) : Cal P w K mg base "is_written" st_is_written 1 ["thing"] 1 fn_is_written :=
  mk_def A sc_is_written rfl fun f cdv A outer s H E hr => by
    have hu := hr.units
    exact s_cons (s_ret (p_and (p_isi (Ts := "int") kI (by rfl) T.z_isinstance (pe_bltn (by rfl) T.z_int (by decide +kernel) rfl) (p_var (pv 0))) (pe_one (p_chain (o_leD) (o_leD) (p_un u_neg ((Fx.c_MOST T (by rfl)))) (p_var (pv 0)) ((Fx.c_MOST T (by rfl))))))) (s_nil)
abbrev st_is_lot : Stmt := topS 10
theorem sc_is_lot : FnScope ["thing"] ["thing"] (defScope st_is_lot) := ⟨rfl, rfl, rfl, by decide +kernel, rfl, by decide +kernel, by decide +kernel⟩
def m_is_lot : En → Option Out := seqO (fun δ => ((fun δ => ((fun δ => ((fun δ => ((fun δ => ((fun δ => (δ[0]?).join) δ).bind fun d => some (.bool (isT d))) δ).bind asB) δ).bind fun k => some !k) δ).bind fun k => if k then some true else (fun δ => ((fun δ => ((fun δ => ((fun δ => (δ[0]?).join) δ).bind fun x => ((fun _ => some []) δ).bind fun r => some (x :: r)) δ).bind lenD) δ).bind fun x => ((fun _ => some (.int 2)) δ).bind fun y => (neD x y).bind asB) δ) δ).bind fun k => if k then (seqO (fun δ => ((fun _ => some (.bool false)) δ).bind fun d => some (.rt d)) (fun δ => some (.nx δ))) δ else (fun δ => some (.nx δ)) δ) (seqO (fun δ => ((andV (fun δ => ((fun δ => ((fun δ => ((fun δ => (δ[0]?).join) δ).bind fun x => ((fun _ => some (.int 0)) δ).bind fun y => ixD x y) δ).bind fun x => ((fun δ => ((fun _ => some (.str "lot")) δ).bind fun x => ((fun _ => some []) δ).bind fun r => some (x :: r)) δ).bind fun r => some (x :: r)) δ).bind fun r => if r.length = 2 then fn_says r else none) (fun δ => ((fun δ => ((fun δ => ((fun δ => (δ[0]?).join) δ).bind fun x => ((fun _ => some (.int 1)) δ).bind fun y => ixD x y) δ).bind fun x => ((fun δ => ((fun _ => some (.int 0)) δ).bind fun x => ((fun _ => some []) δ).bind fun r => some (x :: r)) δ).bind fun r => some (x :: r)) δ).bind fun r => if r.length = 2 then fn_is_whole_from r else none)) δ).bind fun d => some (.rt d)) (fun δ => some (.nx δ)))
def fn_is_lot : List D → Option D := fnD 1 m_is_lot
theorem ok_is_lot (T : Fx K mg) (A : Dfn K mg "is_lot" st_is_lot ["thing"]) (C_is_whole_from : Cal P w K mg base "is_whole_from" st_is_whole_from 2 ["thing", "least"] 2 fn_is_whole_from) (C_says : Cal P w K mg base "says" st_says 1 ["thing", "word"] 2 fn_says) : Cal P w K mg base "is_lot" st_is_lot 3 ["thing"] 1 fn_is_lot :=
  mk_def A sc_is_lot rfl fun f cdv A outer s H E hr => by
    have hu := hr.units
    exact s_cons (s_if ((q_or (q_not (q_val (p_isi (Ts := "tuple") kT (by rfl) T.z_isinstance (pe_bltn (by rfl) T.z_tuple (by decide +kernel) rfl) (p_var (pv 0))))) (pw_or1 (q_cmp (o_ne hu) (p_callB c_len (by rfl) T.z_len (by decide +kernel) (l_cons (p_var (pv 0)) (l_nil))) (p_c pe_int fun _ => .int _) (nobehind _ (by decide) (by decide))))).pt) (s_cons (s_ret (p_c pe_bl fun _ => .bl _)) (s_nil)) (s_nil)) (s_cons (s_ret (p_and (c_call C_says hr (by decide) (by rfl) (l_cons (p_ix (p_var (pv 0)) (p_c pe_int fun _ => .int _) (fun _ _ => rfl)) (l_cons (p_c pe_str fun _ => .str _) (l_nil)))) (pe_one (c_call C_is_whole_from hr (by decide) (by rfl) (l_cons (p_ix (p_var (pv 0)) (p_c pe_int fun _ => .int _) (fun _ _ => rfl)) (l_cons (p_c pe_int fun _ => .int _) (l_nil))))))) (s_nil))
abbrev st_is_place : Stmt := topS 11
theorem sc_is_place : FnScope ["thing"] ["thing"] (defScope st_is_place) := ⟨rfl, rfl, rfl, by decide +kernel, rfl, by decide +kernel, by decide +kernel⟩
def m_is_place : En → Option Out := seqO (fun δ => ((fun δ => ((fun δ => ((fun δ => ((fun δ => ((fun δ => (δ[0]?).join) δ).bind fun d => some (.bool (isT d))) δ).bind asB) δ).bind fun k => some !k) δ).bind fun k => if k then some true else (fun δ => ((fun δ => ((fun δ => ((fun δ => (δ[0]?).join) δ).bind fun x => ((fun _ => some []) δ).bind fun r => some (x :: r)) δ).bind lenD) δ).bind fun x => ((fun _ => some (.int 3)) δ).bind fun y => (neD x y).bind asB) δ) δ).bind fun k => if k then (seqO (fun δ => ((fun _ => some (.bool false)) δ).bind fun d => some (.rt d)) (fun δ => some (.nx δ))) δ else (fun δ => some (.nx δ)) δ) (seqO (fun δ => ((andV (fun δ => ((fun δ => ((fun δ => ((fun δ => (δ[0]?).join) δ).bind fun x => ((fun _ => some (.int 0)) δ).bind fun y => ixD x y) δ).bind fun x => ((fun δ => ((fun _ => some (.str "place")) δ).bind fun x => ((fun _ => some []) δ).bind fun r => some (x :: r)) δ).bind fun r => some (x :: r)) δ).bind fun r => if r.length = 2 then fn_says r else none) (andV (fun δ => ((fun δ => ((fun δ => ((fun δ => (δ[0]?).join) δ).bind fun x => ((fun _ => some (.int 1)) δ).bind fun y => ixD x y) δ).bind fun x => ((fun δ => ((fun _ => some (.int 0)) δ).bind fun x => ((fun _ => some []) δ).bind fun r => some (x :: r)) δ).bind fun r => some (x :: r)) δ).bind fun r => if r.length = 2 then fn_is_whole_from r else none) (fun δ => ((fun δ => ((fun δ => ((fun δ => (δ[0]?).join) δ).bind fun x => ((fun _ => some (.int 2)) δ).bind fun y => ixD x y) δ).bind fun x => ((fun _ => some []) δ).bind fun r => some (x :: r)) δ).bind fun r => if r.length = 1 then fn_is_word r else none))) δ).bind fun d => some (.rt d)) (fun δ => some (.nx δ)))
def fn_is_place : List D → Option D := fnD 1 m_is_place
theorem ok_is_place (T : Fx K mg) (A : Dfn K mg "is_place" st_is_place ["thing"]) (C_is_whole_from : Cal P w K mg base "is_whole_from" st_is_whole_from 2 ["thing", "least"] 2 fn_is_whole_from) (C_is_word : Cal P w K mg base "is_word" st_is_word 1 ["thing"] 1 fn_is_word) (C_says : Cal P w K mg base "says" st_says 1 ["thing", "word"] 2 fn_says) : Cal P w K mg base "is_place" st_is_place 3 ["thing"] 1 fn_is_place :=
  mk_def A sc_is_place rfl fun f cdv A outer s H E hr => by
    have hu := hr.units
    exact s_cons (s_if ((q_or (q_not (q_val (p_isi (Ts := "tuple") kT (by rfl) T.z_isinstance (pe_bltn (by rfl) T.z_tuple (by decide +kernel) rfl) (p_var (pv 0))))) (pw_or1 (q_cmp (o_ne hu) (p_callB c_len (by rfl) T.z_len (by decide +kernel) (l_cons (p_var (pv 0)) (l_nil))) (p_c pe_int fun _ => .int _) (nobehind _ (by decide) (by decide))))).pt) (s_cons (s_ret (p_c pe_bl fun _ => .bl _)) (s_nil)) (s_nil)) (s_cons (s_ret (p_and (c_call C_says hr (by decide) (by rfl) (l_cons (p_ix (p_var (pv 0)) (p_c pe_int fun _ => .int _) (fun _ _ => rfl)) (l_cons (p_c pe_str fun _ => .str _) (l_nil)))) (p_and (c_call C_is_whole_from hr (by decide) (by rfl) (l_cons (p_ix (p_var (pv 0)) (p_c pe_int fun _ => .int _) (fun _ _ => rfl)) (l_cons (p_c pe_int fun _ => .int _) (l_nil)))) (pe_one (c_call C_is_word hr (by decide) (by rfl) (l_cons (p_ix (p_var (pv 0)) (p_c pe_int fun _ => .int _) (fun _ _ => rfl)) (l_nil))))))) (s_nil))
abbrev st_is_worth : Stmt := topS 12
theorem sc_is_worth : FnScope ["thing"] ["thing"] (defScope st_is_worth) := ⟨rfl, rfl, rfl, by decide +kernel, rfl, by decide +kernel, by decide +kernel⟩
def m_is_worth : En → Option Out := seqO (fun δ => ((orV (fun δ => ((fun δ => ((fun δ => (δ[0]?).join) δ).bind fun x => ((fun _ => some []) δ).bind fun r => some (x :: r)) δ).bind fun r => if r.length = 1 then fn_is_written r else none) (orV (fun δ => ((fun δ => ((fun δ => (δ[0]?).join) δ).bind fun x => ((fun _ => some []) δ).bind fun r => some (x :: r)) δ).bind fun r => if r.length = 1 then fn_is_lot r else none) (fun δ => ((fun δ => ((fun δ => (δ[0]?).join) δ).bind fun x => ((fun _ => some []) δ).bind fun r => some (x :: r)) δ).bind fun r => if r.length = 1 then fn_is_place r else none))) δ).bind fun d => some (.rt d)) (fun δ => some (.nx δ))
def fn_is_worth : List D → Option D := fnD 1 m_is_worth
theorem ok_is_worth (T : Fx K mg) (A : Dfn K mg "is_worth" st_is_worth ["thing"]) (C_is_lot : Cal P w K mg base "is_lot" st_is_lot 3 ["thing"] 1 fn_is_lot) (C_is_place : Cal P w K mg base "is_place" st_is_place 3 ["thing"] 1 fn_is_place) (C_is_written : Cal P w K mg base "is_written" st_is_written 1 ["thing"] 1 fn_is_written) : Cal P w K mg base "is_worth" st_is_worth 4 ["thing"] 1 fn_is_worth :=
  mk_def A sc_is_worth rfl fun f cdv A outer s H E hr => by
    have hu := hr.units
    exact s_cons (s_ret (p_or (c_call C_is_written hr (by decide) (by rfl) (l_cons (p_var (pv 0)) (l_nil))) (p_or (c_call C_is_lot hr (by decide) (by rfl) (l_cons (p_var (pv 0)) (l_nil))) (pe_one (c_call C_is_place hr (by decide) (by rfl) (l_cons (p_var (pv 0)) (l_nil))))))) (s_nil)
abbrev st_alike : Stmt := topS 13
theorem sc_alike : FnScope ["one", "other", "a", "b"] ["one", "other"] (defScope st_alike) := ⟨rfl, rfl, rfl, by decide +kernel, rfl, by decide +kernel, by decide +kernel⟩
def m_alike (f : List D → Option D) : En → Option Out := seqO (fun δ => ((fun δ => ((fun δ => ((fun δ => ((fun δ => (δ[0]?).join) δ).bind fun d => some (.bool (isT d))) δ).bind asB) δ).bind fun k => if k then (fun δ => ((fun δ => ((fun δ => (δ[1]?).join) δ).bind fun d => some (.bool (isT d))) δ).bind asB) δ else some false) δ).bind fun k => if k then (seqO (fun δ => ((andV (fun δ => ((fun δ => ((fun δ => ((fun δ => (δ[0]?).join) δ).bind fun x => ((fun _ => some []) δ).bind fun r => some (x :: r)) δ).bind lenD) δ).bind fun x => ((fun δ => ((fun δ => ((fun δ => (δ[1]?).join) δ).bind fun x => ((fun _ => some []) δ).bind fun r => some (x :: r)) δ).bind lenD) δ).bind fun y => eqD x y) (fun δ => ((fun δ => ((fun δ => ((fun δ => (δ[0]?).join) δ).bind fun d => ((fun δ => (δ[1]?).join) δ).bind fun e => zipC (yesQ) (fun δ => ((fun δ => ((fun δ => (δ[2]?).join) δ).bind fun x => ((fun δ => ((fun δ => (δ[3]?).join) δ).bind fun x => ((fun _ => some []) δ).bind fun r => some (x :: r)) δ).bind fun r => some (x :: r)) δ).bind fun r => if r.length = 2 then f r else none) 2 3 δ d e) δ).bind fun x => ((fun _ => some []) δ).bind fun r => some (x :: r)) δ).bind allD)) δ).bind fun d => some (.rt d)) (fun δ => some (.nx δ))) δ else (fun δ => some (.nx δ)) δ) (seqO (fun δ => ((andV (fun δ => ((fun δ => ((fun δ => (δ[0]?).join) δ).bind fun d => some (.bool (isB d))) δ).bind fun x => ((fun δ => ((fun δ => (δ[1]?).join) δ).bind fun d => some (.bool (isB d))) δ).bind fun y => eqD x y) (fun δ => ((fun δ => (δ[0]?).join) δ).bind fun x => ((fun δ => (δ[1]?).join) δ).bind fun y => eqD x y)) δ).bind fun d => some (.rt d)) (fun δ => some (.nx δ)))
def fu_alike : Nat → List D → Option D
  | 0 => fun _ => none
  | n + 1 => fnD 4 (m_alike (fu_alike n))
abbrev fn_alike := fu_alike 2
theorem ou_alike (T : Fx K mg) (A0 : Dfn K mg "alike" st_alike ["one", "other"]) : ∀ n, Cal P w K mg base "alike" st_alike n ["one", "other"] 2 (fu_alike n)
  | 0 => by
    obtain ⟨f, fd, F, m, b⟩ := A0.ex
    refine ⟨f, fd, F, ⟨fun vs H Q E z => ?_, fun A outer s H args us vs Q E _ _ _ _ z => ?_⟩, m, b⟩
    · obtain ⟨_, _, _, _, e, _⟩ := z
      cases e
    · obtain ⟨_, _, _, _, e, _⟩ := z
      cases e
  | n + 1 => mk_def A0 sc_alike rfl fun f cdv A outer s H E hr => by
    have C_self := ou_alike T A0 n
    have hu := hr.units
    exact s_cons (s_if ((q_and (q_val (p_isi (Ts := "tuple") kT (by rfl) T.z_isinstance (pe_bltn (by rfl) T.z_tuple (by decide +kernel) rfl) (p_var (pv 0)))) (pw_and1 (q_val (p_isi (Ts := "tuple") kT (by rfl) T.z_isinstance (pe_bltn (by rfl) T.z_tuple (by decide +kernel) rfl) (p_var (pv 1)))))).pt) (s_cons (s_ret (p_and (p_cmp (o_eq hu) (p_callB c_len (by rfl) T.z_len (by decide +kernel) (l_cons (p_var (pv 0)) (l_nil))) (p_callB c_len (by rfl) T.z_len (by decide +kernel) (l_cons (p_var (pv 1)) (l_nil))) (nobehind _ (by decide) (by decide))) (pe_one (p_callB (c_all rfl) (by rfl) T.z_all (by decide +kernel) (l_cons (p_lcZ (i := 2) (j := 3) (by decide) rfl sc_alike.nd (by rfl) T.z_zip (p_var (pv 0)) (p_var (pv 1)) (blkOk_by (own := [("a", 2), ("b", 3)]) (N := ["one", "other", "a", "b"]) (sc := (defScope st_alike)) (by decide +kernel)) (fun _ _ _ _ _ => pg_tup rfl (pgs_cons (pg_name (i := 2) sc_alike.nd rfl (Or.inl rfl)) (pgs_cons (pg_name (i := 3) sc_alike.nd rfl (Or.inl rfl)) pgs_nil))) (fun _ _ _ _ _ => ts_nil) (fun _ _ _ _ _ => c_call C_self hr (Nat.le_refl _) (by rfl) (l_cons (p_var (pv 2)) (l_cons (p_var (pv 3)) (l_nil))))) (l_nil)))))) (s_nil)) (s_nil)) (s_cons (s_ret (p_and (p_cmp (o_eq hu) (p_isi (Ts := "bool") kB (by rfl) T.z_isinstance (pe_bltn (by rfl) T.z_bool (by decide +kernel) rfl) (p_var (pv 0))) (p_isi (Ts := "bool") kB (by rfl) T.z_isinstance (pe_bltn (by rfl) T.z_bool (by decide +kernel) rfl) (p_var (pv 1))) (nobehind _ (by decide) (by decide))) (pe_one (p_cmp (o_eq hu) (p_var (pv 0)) (p_var (pv 1)) (nobehind _ (by decide) (by decide)))))) (s_nil))

theorem ok_alike (T : Fx K mg) (A : Dfn K mg "alike" st_alike ["one", "other"]) : Cal P w K mg base "alike" st_alike 2 ["one", "other"] 2 fn_alike := ou_alike T A 2
abbrev st_reckoned : Stmt := topS 15
theorem sc_reckoned : FnScope ["word", "one", "other"] ["word", "one", "other"] (defScope st_reckoned) := ⟨rfl, rfl, rfl, by decide +kernel, rfl, by decide +kernel, by decide +kernel⟩
def m_reckoned : En → Option Out := seqO (fun δ => ((fun δ => ((fun δ => (δ[0]?).join) δ).bind fun x => ((fun _ => some (.str "plus")) δ).bind fun y => (eqD x y).bind asB) δ).bind fun k => if k then (seqO (fun δ => ((fun δ => ((fun δ => (δ[1]?).join) δ).bind fun x => ((fun δ => (δ[2]?).join) δ).bind fun y => addD x y) δ).bind fun d => some (.rt d)) (fun δ => some (.nx δ))) δ else (fun δ => some (.nx δ)) δ) (seqO (fun δ => ((fun δ => ((fun δ => (δ[0]?).join) δ).bind fun x => ((fun _ => some (.str "minus")) δ).bind fun y => (eqD x y).bind asB) δ).bind fun k => if k then (seqO (fun δ => ((fun δ => ((fun δ => (δ[1]?).join) δ).bind fun x => ((fun δ => (δ[2]?).join) δ).bind fun y => (onI fun i j => some (.int (i - j))) x y) δ).bind fun d => some (.rt d)) (fun δ => some (.nx δ))) δ else (fun δ => some (.nx δ)) δ) (seqO (fun δ => ((fun δ => ((fun δ => (δ[1]?).join) δ).bind fun x => ((fun δ => (δ[2]?).join) δ).bind fun y => (onI fun i j => if small i then some (.int (i * j)) else none) x y) δ).bind fun d => some (.rt d)) (fun δ => some (.nx δ))))
def fn_reckoned : List D → Option D := fnD 3 m_reckoned
theorem ok_reckoned (T : Fx K mg) (A : Dfn K mg "reckoned" st_reckoned ["word", "one", "other"]) : Cal P w K mg base "reckoned" st_reckoned 1 ["word", "one", "other"] 3 fn_reckoned :=
  mk_def A sc_reckoned rfl fun f cdv A outer s H E hr => by
    have hu := hr.units
    exact s_cons (s_if (q_cmp (o_eq hu) (p_var (pv 0)) (p_c pe_str fun _ => .str _) (nobehind _ (by decide) (by decide))) (s_cons (s_ret (p_op o_addA (p_var (pv 1)) (p_var (pv 2)))) (s_nil)) (s_nil)) (s_cons (s_if (q_cmp (o_eq hu) (p_var (pv 0)) (p_c pe_str fun _ => .str _) (nobehind _ (by decide) (by decide))) (s_cons (s_ret (p_op o_sub (p_var (pv 1)) (p_var (pv 2)))) (s_nil)) (s_nil)) (s_cons (s_ret (p_op o_mul (p_var (pv 1)) (p_var (pv 2)))) (s_nil)))
abbrev st_within_bounds : Stmt := topS 16
theorem sc_within_bounds : FnScope ["number"] ["number"] (defScope st_within_bounds) := ⟨rfl, rfl, rfl, by decide +kernel, rfl, by decide +kernel, by decide +kernel⟩
def m_within_bounds : En → Option Out := seqO (fun δ => ((fun δ => ((fun δ => ((fun δ => ((fun δ => (δ[0]?).join) δ).bind fun x => ((fun _ => some []) δ).bind fun r => some (x :: r)) δ).bind fun r => if r.length = 1 then fn_is_number r else none) δ).bind asB) δ).bind fun k => if k then (seqO (fun δ => ((disp .tuple (fun δ => ((fun _ => some (.str "worth")) δ).bind fun x => ((fun δ => ((fun δ => (δ[0]?).join) δ).bind fun x => ((fun _ => some []) δ).bind fun r => some (x :: r)) δ).bind fun r => some (x :: r))) δ).bind fun d => some (.rt d)) (fun δ => some (.nx δ))) δ else (fun δ => some (.nx δ)) δ) (seqO (fun δ => ((disp .tuple (fun δ => ((fun _ => some (.str "fault")) δ).bind fun x => ((fun δ => ((fun _ => some (.str "great")) δ).bind fun x => ((fun _ => some []) δ).bind fun r => some (x :: r)) δ).bind fun r => some (x :: r))) δ).bind fun d => some (.rt d)) (fun δ => some (.nx δ)))
def fn_within_bounds : List D → Option D := fnD 1 m_within_bounds
theorem ok_within_bounds (T : Fx K mg) (A : Dfn K mg "within_bounds" st_within_bounds ["number"]) (C_is_number : Cal P w K mg base "is_number" st_is_number 2 ["thing"] 1 fn_is_number) : Cal P w K mg base "within_bounds" st_within_bounds 3 ["number"] 1 fn_within_bounds :=
  mk_def A sc_within_bounds rfl fun f cdv A outer s H E hr => by
    have hu := hr.units
    exact s_cons (s_if (q_val (c_call C_is_number hr (by decide) (by rfl) (l_cons (p_var (pv 0)) (l_nil)))) (s_cons (s_ret (p_tup (l_cons (p_c pe_str fun _ => .str _) (l_cons (p_var (pv 0)) (l_nil))))) (s_nil)) (s_nil)) (s_cons (s_ret (p_tup (l_cons (p_c pe_str fun _ => .str _) (l_cons (p_c pe_str fun _ => .str _) (l_nil))))) (s_nil))
abbrev st__law_same : Stmt := topS 20
theorem sc__law_same : FnScope ["_law_one_now", "_law_other_now"] ["_law_one_now", "_law_other_now"] (defScope st__law_same) := ⟨rfl, rfl, rfl, by decide +kernel, rfl, by decide +kernel, by decide +kernel⟩
def m__law_same : En → Option Out := seqO (fun δ => ((fun δ => ((fun δ => ((fun δ => ((fun δ => (δ[0]?).join) δ).bind fun x => ((fun _ => some []) δ).bind fun r => some (x :: r)) δ).bind shownD) δ).bind fun x => ((fun δ => ((fun δ => ((fun δ => (δ[1]?).join) δ).bind fun x => ((fun _ => some []) δ).bind fun r => some (x :: r)) δ).bind shownD) δ).bind fun y => eqD x y) δ).bind fun d => some (.rt d)) (fun δ => some (.nx δ))
def fn__law_same : List D → Option D := fnD 2 m__law_same
theorem ok__law_same (T : Fx K mg) (A : Dfn K mg "_law_same" st__law_same ["_law_one_now", "_law_other_now"]) : CalG P w K mg base "_law_same" st__law_same 1 ["_law_one_now", "_law_other_now"] 2 fn__law_same :=
  mk_defG A sc__law_same rfl fun f cdv A outer s H E hr hG => by
    have hu := hr.units
    exact s_cons (s_ret (p_cmp (o_eq hu) (p_callB (c_repr hG hu) (by rfl) T.z_repr (by decide +kernel) (l_cons (p_var (pv 0)) (l_nil))) (p_callB (c_repr hG hu) (by rfl) T.z_repr (by decide +kernel) (l_cons (p_var (pv 1)) (l_nil))) (nobehind _ (by decide) (by decide)))) (s_nil)
abbrev st__law_two : Stmt := topS 21
theorem sc__law_two : FnScope ["_law_word_now", "_law_one_now", "_law_other_now", "_law_worth", "_law_found"] ["_law_word_now", "_law_one_now", "_law_other_now"] (defScope st__law_two) := ⟨rfl, rfl, rfl, by decide +kernel, rfl, by decide +kernel, by decide +kernel⟩
def m__law_two : En → Option Out := seqO (fun δ => ((fun δ => ((fun δ => (δ[0]?).join) δ).bind fun x => ((fun _ => some (.str "same")) δ).bind fun y => (eqD x y).bind asB) δ).bind fun k => if k then (seqO (fun δ => ((disp .tuple (fun δ => ((fun _ => some (.str "worth")) δ).bind fun x => ((fun δ => ((fun δ => ((fun δ => ((fun δ => (δ[1]?).join) δ).bind fun x => ((fun δ => ((fun δ => (δ[2]?).join) δ).bind fun x => ((fun _ => some []) δ).bind fun r => some (x :: r)) δ).bind fun r => some (x :: r)) δ).bind fun r => if r.length = 2 then fn__law_same r else none) δ).bind fun x => ((fun _ => some []) δ).bind fun r => some (x :: r)) δ).bind fun r => some (x :: r))) δ).bind fun d => some (.rt d)) (fun δ => some (.nx δ))) δ else (fun δ => some (.nx δ)) δ) (seqO (fun δ => ((disp .list (fun δ => ((fun δ => (δ[1]?).join) δ).bind fun x => ((fun δ => ((fun δ => (δ[2]?).join) δ).bind fun x => ((fun _ => some []) δ).bind fun r => some (x :: r)) δ).bind fun r => some (x :: r))) δ).bind fun d => match d with | .list ds => loopO 3 (seqO (fun δ => ((fun δ => ((fun δ => ((fun δ => (δ[3]?).join) δ).bind fun d => some (.bool (isB d || isT d))) δ).bind asB) δ).bind fun k => if k then (seqO (fun δ => ((disp .tuple (fun δ => ((fun _ => some (.str "fault")) δ).bind fun x => ((fun δ => ((fun _ => some (.str "kind")) δ).bind fun x => ((fun _ => some []) δ).bind fun r => some (x :: r)) δ).bind fun r => some (x :: r))) δ).bind fun d => some (.rt d)) (fun δ => some (.nx δ))) δ else (fun δ => some (.nx δ)) δ) (fun δ => some (.nx δ))) ds δ | _ => none) (seqO (fun δ => ((fun δ => ((fun δ => (δ[0]?).join) δ).bind fun x => ((fun _ => some (.str "below")) δ).bind fun y => (eqD x y).bind asB) δ).bind fun k => if k then (seqO (fun δ => ((disp .tuple (fun δ => ((fun _ => some (.str "worth")) δ).bind fun x => ((fun δ => ((fun δ => ((fun δ => (δ[1]?).join) δ).bind fun x => ((fun δ => (δ[2]?).join) δ).bind fun y => (onI fun i j => some (.bool (decide (i < j)))) x y) δ).bind fun x => ((fun _ => some []) δ).bind fun r => some (x :: r)) δ).bind fun r => some (x :: r))) δ).bind fun d => some (.rt d)) (fun δ => some (.nx δ))) δ else (fun δ => some (.nx δ)) δ) (seqO (fun δ => ((fun δ => ((disp .list (fun δ => ((fun δ => ((fun δ => (δ[1]?).join) δ).bind fun x => ((fun δ => (δ[2]?).join) δ).bind fun y => addD x y) δ).bind fun x => ((fun δ => ((fun δ => ((fun δ => (δ[1]?).join) δ).bind fun x => ((fun δ => (δ[2]?).join) δ).bind fun y => (onI fun i j => some (.int (i - j))) x y) δ).bind fun x => ((fun δ => ((fun δ => ((fun δ => (δ[1]?).join) δ).bind fun x => ((fun δ => (δ[2]?).join) δ).bind fun y => (onI fun i j => if small i then some (.int (i * j)) else none) x y) δ).bind fun x => ((fun _ => some []) δ).bind fun r => some (x :: r)) δ).bind fun r => some (x :: r)) δ).bind fun r => some (x :: r))) δ).bind fun x => ((fun δ => ((disp .list (fun δ => ((fun _ => some (.str "plus")) δ).bind fun x => ((fun δ => ((fun _ => some (.str "minus")) δ).bind fun x => ((fun δ => ((fun _ => some (.str "times")) δ).bind fun x => ((fun _ => some []) δ).bind fun r => some (x :: r)) δ).bind fun r => some (x :: r)) δ).bind fun r => some (x :: r))) δ).bind fun x => ((fun δ => ((fun δ => (δ[0]?).join) δ).bind fun x => ((fun _ => some []) δ).bind fun r => some (x :: r)) δ).bind fun r => indexD x r) δ).bind fun y => ixD x y) δ).bind fun d => some (.nx (δ.set 4 (some d)))) (seqO (fun δ => ((fun δ => ((fun δ => ((chn (onI fun i j => some (.bool (decide (i ≤ j)))) (onI fun i j => some (.bool (decide (i ≤ j)))) (fun δ => ((fun δ => ((fun _ => some (.int 10)) δ).bind fun x => ((fun _ => some (.int 9)) δ).bind fun y => (onI fun i j => if i = 10 ∧ 0 ≤ j ∧ j ≤ 1000 then some (.int (i ^ j.toNat)) else none) x y) δ).bind negD) (fun δ => (δ[4]?).join) (fun δ => ((fun _ => some (.int 10)) δ).bind fun x => ((fun _ => some (.int 9)) δ).bind fun y => (onI fun i j => if i = 10 ∧ 0 ≤ j ∧ j ≤ 1000 then some (.int (i ^ j.toNat)) else none) x y)) δ).bind asB) δ).bind fun k => if k then (disp .tuple (fun δ => ((fun _ => some (.str "worth")) δ).bind fun x => ((fun δ => ((fun δ => (δ[4]?).join) δ).bind fun x => ((fun _ => some []) δ).bind fun r => some (x :: r)) δ).bind fun r => some (x :: r))) δ else (disp .tuple (fun δ => ((fun _ => some (.str "fault")) δ).bind fun x => ((fun δ => ((fun _ => some (.str "great")) δ).bind fun x => ((fun _ => some []) δ).bind fun r => some (x :: r)) δ).bind fun r => some (x :: r))) δ) δ).bind fun d => some (.rt d)) (fun δ => some (.nx δ))))))
def fn__law_two : List D → Option D := fnD 5 m__law_two
theorem ok__law_two (T : Fx K mg) (A : Dfn K mg "_law_two" st__law_two ["_law_word_now", "_law_one_now", "_law_other_now"]) (C__law_same : CalG P w K mg base "_law_same" st__law_same 1 ["_law_one_now", "_law_other_now"] 2 fn__law_same) : CalG P w K mg base "_law_two" st__law_two 2 ["_law_word_now", "_law_one_now", "_law_other_now"] 3 fn__law_two :=
  mk_defG A sc__law_two rfl fun f cdv A outer s H E hr hG => by
    have hu := hr.units
    exact s_cons (s_if (q_cmp (o_eq hu) (p_var (pv 0)) (p_c pe_str fun _ => .str _) (nobehind _ (by decide) (by decide))) (s_cons (s_ret (p_tup (l_cons (p_c pe_str fun _ => .str _) (l_cons (c_callG C__law_same hr (by decide) hG (by rfl) (l_cons (p_var (pv 1)) (l_cons (p_var (pv 2)) (l_nil)))) (l_nil))))) (s_nil)) (s_nil)) (s_cons (s_for (i := 3) PassesOwn.never rfl (p_lst (l_cons (p_var (pv 1)) (l_cons (p_var (pv 2)) (l_nil)))) sc__law_two.nd rfl (Or.inl rfl) (s_cons (s_if (q_val (p_isi2 (Ts := "bool") (Us := "tuple") kB kT (by rfl) T.z_isinstance (pe_bltn (by rfl) T.z_bool (by decide +kernel) rfl) (pe_bltn (by rfl) T.z_tuple (by decide +kernel) rfl) (p_var (pv 3)))) (s_cons (s_ret (p_tup (l_cons (p_c pe_str fun _ => .str _) (l_cons (p_c pe_str fun _ => .str _) (l_nil))))) (s_nil)) (s_nil)) (s_nil))) (s_cons (s_if (q_cmp (o_eq hu) (p_var (pv 0)) (p_c pe_str fun _ => .str _) (nobehind _ (by decide) (by decide))) (s_cons (s_ret (p_tup (l_cons (p_c pe_str fun _ => .str _) (l_cons (p_cmp (o_lt) (p_var (pv 1)) (p_var (pv 2)) (nobehind _ (by decide) (by decide))) (l_nil))))) (s_nil)) (s_nil)) (s_cons (s_set (i := 4) sc__law_two.nd rfl (Or.inl rfl) (p_ix (p_lst (l_cons (p_op o_addA (p_var (pv 1)) (p_var (pv 2))) (l_cons (p_op o_sub (p_var (pv 1)) (p_var (pv 2))) (l_cons (p_op o_mul (p_var (pv 1)) (p_var (pv 2))) (l_nil))))) (p_index (p_lst (l_cons (p_c pe_str fun _ => .str _) (l_cons (p_c pe_str fun _ => .str _) (l_cons (p_c pe_str fun _ => .str _) (l_nil))))) (l_cons (p_var (pv 0)) (l_nil))) (fun _ _ => rfl))) (s_cons (s_ret (p_ife (q_chain (o_le) (o_le) (p_un u_neg (p_op o_pow (p_c pe_int fun _ => .int _) (p_c pe_int fun _ => .int _))) (p_var (pv 4)) (p_op o_pow (p_c pe_int fun _ => .int _) (p_c pe_int fun _ => .int _))) (p_tup (l_cons (p_c pe_str fun _ => .str _) (l_cons (p_var (pv 4)) (l_nil)))) (p_tup (l_cons (p_c pe_str fun _ => .str _) (l_cons (p_c pe_str fun _ => .str _) (l_nil)))))) (s_nil)))))
abbrev st__law_own_word : Stmt := topS 22
theorem sc__law_own_word : FnScope ["_law_odd_one", "_law_sign"] ["_law_odd_one"] (defScope st__law_own_word) := ⟨rfl, rfl, rfl, by decide +kernel, rfl, by decide +kernel, by decide +kernel⟩
def m__law_own_word : En → Option Out := seqO (fun δ => ((fun δ => ((fun δ => ((fun δ => ((fun δ => ((fun δ => (δ[0]?).join) δ).bind fun d => some (.bool (isS d))) δ).bind asB) δ).bind fun k => some !k) δ).bind fun k => if k then some true else (fun δ => ((fun δ => ((chn (onI fun i j => some (.bool (decide (i ≤ j)))) (onI fun i j => some (.bool (decide (i ≤ j)))) (fun _ => some (.int 1)) (fun δ => ((fun δ => ((fun δ => (δ[0]?).join) δ).bind fun x => ((fun _ => some []) δ).bind fun r => some (x :: r)) δ).bind lenD) (fun _ => some (.int 6))) δ).bind asB) δ).bind fun k => some !k) δ) δ).bind fun k => if k then (seqO (fun δ => ((fun _ => some (.bool false)) δ).bind fun d => some (.rt d)) (fun δ => some (.nx δ))) δ else (fun δ => some (.nx δ)) δ) (seqO (fun δ => ((fun δ => ((fun δ => ((fun δ => (δ[0]?).join) δ).bind fun d => (strEs 1 δ d).bind fun δs => (compO (fun δ => ((fun δ => (δ[1]?).join) δ).bind fun x => ((fun _ => some (.str "abcdefghijklmnopqrstuvwxyz")) δ).bind fun y => ((fun x y => (signIn x y).bind fun b => some (.bool !b)) x y).bind asB) (fun δ => (δ[1]?).join) δs).bind fun ds => some (.list ds)) δ).bind fun x => ((disp .list (fun _ => some [])) δ).bind fun y => eqD x y) δ).bind fun d => some (.rt d)) (fun δ => some (.nx δ)))
def fn__law_own_word : List D → Option D := fnD 2 m__law_own_word
theorem ok__law_own_word (T : Fx K mg) (A : Dfn K mg "_law_own_word" st__law_own_word ["_law_odd_one"]) : Cal P w K mg base "_law_own_word" st__law_own_word 1 ["_law_odd_one"] 1 fn__law_own_word :=
  mk_def A sc__law_own_word rfl fun f cdv A outer s H E hr => by
    have hu := hr.units
    exact s_cons (s_if ((q_or (q_not (q_val (p_isi (Ts := "str") kS (by rfl) T.z_isinstance (pe_bltn (by rfl) T.z_str (by decide +kernel) rfl) (p_var (pv 0))))) (pw_or1 (q_not (q_chain (o_le) (o_le) (p_c pe_int fun _ => .int _) (p_callB c_len (by rfl) T.z_len (by decide +kernel) (l_cons (p_var (pv 0)) (l_nil))) (p_c pe_int fun _ => .int _))))).pt) (s_cons (s_ret (p_c pe_bl fun _ => .bl _)) (s_nil)) (s_nil)) (s_cons (s_ret (p_cmp (o_eq hu) (p_lcS (i := 1) rfl sc__law_own_word.nd (p_var (pv 0)) (blkOk_by (own := [("_law_sign", 1)]) (N := ["_law_odd_one", "_law_sign"]) (sc := (defScope st__law_own_word)) (by decide +kernel)) (fun _ _ _ _ _ => pg_name (i := 1) sc__law_own_word.nd rfl (Or.inl rfl)) (fun _ _ _ _ _ => pts_one (q_cmp (o_notin) (p_var (pv 1)) (p_c pe_str fun _ => .str _) rfl)) (fun _ _ _ _ _ => p_var (pv 1))) (p_lst (l_nil)) (nobehind _ (by decide) (by decide)))) (s_nil))
abbrev st__law_own_number : Stmt := topS 23
theorem sc__law_own_number : FnScope ["_law_odd_one", "_law_low"] ["_law_odd_one", "_law_low"] (defScope st__law_own_number) := ⟨rfl, rfl, rfl, by decide +kernel, rfl, by decide +kernel, by decide +kernel⟩
def m__law_own_number : En → Option Out := seqO (fun δ => ((andV (fun δ => ((fun δ => (δ[0]?).join) δ).bind fun d => some (.bool (isI d))) (andV (fun δ => ((fun δ => ((fun δ => (δ[0]?).join) δ).bind fun d => some (.bool (isB d))) δ).bind fun x => (asB x).bind fun k => some (.bool !k)) (fun δ => ((fun δ => (δ[0]?).join) δ).bind fun x => ((fun δ => (δ[1]?).join) δ).bind fun y => (onI fun i j => some (.bool (decide (j ≤ i)))) x y))) δ).bind fun d => some (.rt d)) (fun δ => some (.nx δ))
def fn__law_own_number : List D → Option D := fnD 2 m__law_own_number
theorem ok__law_own_number (T : Fx K mg) (A : Dfn K mg "_law_own_number" st__law_own_number ["_law_odd_one", "_law_low"]) : Cal P w K mg base "_law_own_number" st__law_own_number 1 ["_law_odd_one", "_law_low"] 2 fn__law_own_number :=
  mk_def A sc__law_own_number rfl fun f cdv A outer s H E hr => by
    have hu := hr.units
    exact s_cons (s_ret (p_and (p_isi (Ts := "int") kI (by rfl) T.z_isinstance (pe_bltn (by rfl) T.z_int (by decide +kernel) rfl) (p_var (pv 0))) (p_and (p_not (p_isi (Ts := "bool") kB (by rfl) T.z_isinstance (pe_bltn (by rfl) T.z_bool (by decide +kernel) rfl) (p_var (pv 0)))) (pe_one (p_cmp (o_ge) (p_var (pv 0)) (p_var (pv 1)) (nobehind _ (by decide) (by decide))))))) (s_nil)
abbrev st__law_own_worth : Stmt := topS 24
theorem sc__law_own_worth : FnScope ["_law_odd_one"] ["_law_odd_one"] (defScope st__law_own_worth) := ⟨rfl, rfl, rfl, by decide +kernel, rfl, by decide +kernel, by decide +kernel⟩
def m__law_own_worth : En → Option Out := seqO (fun δ => ((fun δ => ((fun δ => ((fun δ => (δ[0]?).join) δ).bind fun d => some (.bool (isB d))) δ).bind asB) δ).bind fun k => if k then (seqO (fun δ => ((fun _ => some (.bool true)) δ).bind fun d => some (.rt d)) (fun δ => some (.nx δ))) δ else (fun δ => some (.nx δ)) δ) (seqO (fun δ => ((fun δ => ((fun δ => ((fun δ => (δ[0]?).join) δ).bind fun d => some (.bool (isI d))) δ).bind asB) δ).bind fun k => if k then (seqO (fun δ => ((chn (onI fun i j => some (.bool (decide (i ≤ j)))) (onI fun i j => some (.bool (decide (i ≤ j)))) (fun δ => ((fun δ => ((fun _ => some (.int 10)) δ).bind fun x => ((fun _ => some (.int 9)) δ).bind fun y => (onI fun i j => if i = 10 ∧ 0 ≤ j ∧ j ≤ 1000 then some (.int (i ^ j.toNat)) else none) x y) δ).bind negD) (fun δ => (δ[0]?).join) (fun δ => ((fun _ => some (.int 10)) δ).bind fun x => ((fun _ => some (.int 9)) δ).bind fun y => (onI fun i j => if i = 10 ∧ 0 ≤ j ∧ j ≤ 1000 then some (.int (i ^ j.toNat)) else none) x y)) δ).bind fun d => some (.rt d)) (fun δ => some (.nx δ))) δ else (fun δ => some (.nx δ)) δ) (seqO (fun δ => ((fun δ => ((fun δ => ((fun δ => ((fun δ => ((fun δ => (δ[0]?).join) δ).bind fun d => some (.bool (isT d))) δ).bind asB) δ).bind fun k => some !k) δ).bind fun k => if k then some true else (fun δ => ((fun δ => ((fun δ => ((fun δ => ((fun δ => (δ[0]?).join) δ).bind fun x => ((fun _ => some []) δ).bind fun r => some (x :: r)) δ).bind lenD) δ).bind fun x => ((disp .tuple (fun δ => ((fun _ => some (.int 2)) δ).bind fun x => ((fun δ => ((fun _ => some (.int 3)) δ).bind fun x => ((fun _ => some []) δ).bind fun r => some (x :: r)) δ).bind fun r => some (x :: r))) δ).bind fun y => ((seqIn true) x y).bind asB) δ).bind fun k => if k then some true else (fun δ => ((fun δ => ((fun δ => ((fun δ => ((fun δ => ((fun δ => (δ[0]?).join) δ).bind fun x => ((fun _ => some (.int 1)) δ).bind fun y => ixD x y) δ).bind fun x => ((fun δ => ((fun _ => some (.int 0)) δ).bind fun x => ((fun _ => some []) δ).bind fun r => some (x :: r)) δ).bind fun r => some (x :: r)) δ).bind fun r => if r.length = 2 then fn__law_own_number r else none) δ).bind asB) δ).bind fun k => some !k) δ) δ) δ).bind fun k => if k then (seqO (fun δ => ((fun _ => some (.bool false)) δ).bind fun d => some (.rt d)) (fun δ => some (.nx δ))) δ else (fun δ => some (.nx δ)) δ) (seqO (fun δ => ((fun δ => ((fun δ => ((fun δ => ((fun δ => (δ[0]?).join) δ).bind fun x => ((fun _ => some []) δ).bind fun r => some (x :: r)) δ).bind lenD) δ).bind fun x => ((fun _ => some (.int 2)) δ).bind fun y => (eqD x y).bind asB) δ).bind fun k => if k then (seqO (fun δ => ((fun δ => ((fun δ => ((fun δ => ((fun δ => ((fun δ => (δ[0]?).join) δ).bind fun x => ((fun _ => some (.int 0)) δ).bind fun y => ixD x y) δ).bind fun x => ((fun _ => some []) δ).bind fun r => some (x :: r)) δ).bind shownD) δ).bind fun x => ((fun δ => ((fun δ => ((fun _ => some (.str "lot")) δ).bind fun x => ((fun _ => some []) δ).bind fun r => some (x :: r)) δ).bind shownD) δ).bind fun y => eqD x y) δ).bind fun d => some (.rt d)) (fun δ => some (.nx δ))) δ else (fun δ => some (.nx δ)) δ) (seqO (fun δ => ((andV (fun δ => ((fun δ => ((fun δ => ((fun δ => ((fun δ => (δ[0]?).join) δ).bind fun x => ((fun _ => some (.int 0)) δ).bind fun y => ixD x y) δ).bind fun x => ((fun _ => some []) δ).bind fun r => some (x :: r)) δ).bind shownD) δ).bind fun x => ((fun δ => ((fun δ => ((fun _ => some (.str "place")) δ).bind fun x => ((fun _ => some []) δ).bind fun r => some (x :: r)) δ).bind shownD) δ).bind fun y => eqD x y) (fun δ => ((fun δ => ((fun δ => ((fun δ => (δ[0]?).join) δ).bind fun x => ((fun _ => some (.int 2)) δ).bind fun y => ixD x y) δ).bind fun x => ((fun _ => some []) δ).bind fun r => some (x :: r)) δ).bind fun r => if r.length = 1 then fn__law_own_word r else none)) δ).bind fun d => some (.rt d)) (fun δ => some (.nx δ))))))
def fn__law_own_worth : List D → Option D := fnD 1 m__law_own_worth
theorem ok__law_own_worth (T : Fx K mg) (A : Dfn K mg "_law_own_worth" st__law_own_worth ["_law_odd_one"]) (C__law_own_number : Cal P w K mg base "_law_own_number" st__law_own_number 1 ["_law_odd_one", "_law_low"] 2 fn__law_own_number) (C__law_own_word : Cal P w K mg base "_law_own_word" st__law_own_word 1 ["_law_odd_one"] 1 fn__law_own_word) : CalG P w K mg base "_law_own_worth" st__law_own_worth 2 ["_law_odd_one"] 1 fn__law_own_worth :=
  mk_defG A sc__law_own_worth rfl fun f cdv A outer s H E hr hG => by
    have hu := hr.units
    exact s_cons (s_if (q_val (p_isi (Ts := "bool") kB (by rfl) T.z_isinstance (pe_bltn (by rfl) T.z_bool (by decide +kernel) rfl) (p_var (pv 0)))) (s_cons (s_ret (p_c pe_bl fun _ => .bl _)) (s_nil)) (s_nil)) (s_cons (s_if (q_val (p_isi (Ts := "int") kI (by rfl) T.z_isinstance (pe_bltn (by rfl) T.z_int (by decide +kernel) rfl) (p_var (pv 0)))) (s_cons (s_ret (p_chain (o_le) (o_le) (p_un u_neg (p_op o_pow (p_c pe_int fun _ => .int _) (p_c pe_int fun _ => .int _))) (p_var (pv 0)) (p_op o_pow (p_c pe_int fun _ => .int _) (p_c pe_int fun _ => .int _)))) (s_nil)) (s_nil)) (s_cons (s_if ((q_or (q_not (q_val (p_isi (Ts := "tuple") kT (by rfl) T.z_isinstance (pe_bltn (by rfl) T.z_tuple (by decide +kernel) rfl) (p_var (pv 0))))) (q_or (q_cmp (o_seq op_notIn_seq) (p_callB c_len (by rfl) T.z_len (by decide +kernel) (l_cons (p_var (pv 0)) (l_nil))) (p_tup (l_cons (p_c pe_int fun _ => .int _) (l_cons (p_c pe_int fun _ => .int _) (l_nil)))) rfl) (pw_or1 (q_not (q_val (c_call C__law_own_number hr (by decide) (by rfl) (l_cons (p_ix (p_var (pv 0)) (p_c pe_int fun _ => .int _) (fun _ _ => rfl)) (l_cons (p_c pe_int fun _ => .int _) (l_nil))))))))).pt) (s_cons (s_ret (p_c pe_bl fun _ => .bl _)) (s_nil)) (s_nil)) (s_cons (s_if (q_cmp (o_eq hu) (p_callB c_len (by rfl) T.z_len (by decide +kernel) (l_cons (p_var (pv 0)) (l_nil))) (p_c pe_int fun _ => .int _) (nobehind _ (by decide) (by decide))) (s_cons (s_ret (p_cmp (o_eq hu) (p_callB (c_repr hG hu) (by rfl) T.z_repr (by decide +kernel) (l_cons (p_ix (p_var (pv 0)) (p_c pe_int fun _ => .int _) (fun _ _ => rfl)) (l_nil))) (p_callB (c_repr hG hu) (by rfl) T.z_repr (by decide +kernel) (l_cons (p_c pe_str fun _ => .str _) (l_nil))) (nobehind _ (by decide) (by decide)))) (s_nil)) (s_nil)) (s_cons (s_ret (p_and (p_cmp (o_eq hu) (p_callB (c_repr hG hu) (by rfl) T.z_repr (by decide +kernel) (l_cons (p_ix (p_var (pv 0)) (p_c pe_int fun _ => .int _) (fun _ _ => rfl)) (l_nil))) (p_callB (c_repr hG hu) (by rfl) T.z_repr (by decide +kernel) (l_cons (p_c pe_str fun _ => .str _) (l_nil))) (nobehind _ (by decide) (by decide))) (pe_one (c_call C__law_own_word hr (by decide) (by rfl) (l_cons (p_ix (p_var (pv 0)) (p_c pe_int fun _ => .int _) (fun _ _ => rfl)) (l_nil)))))) (s_nil)))))
abbrev st__law_looks_right : Stmt := topS 27
theorem sc__law_looks_right : FnScope ["_law_odd_one", "_law_kept"] ["_law_odd_one"] (defScope st__law_looks_right) := ⟨rfl, rfl, rfl, by decide +kernel, rfl, by decide +kernel, by decide +kernel⟩
def m__law_looks_right : En → Option Out := seqO (fun δ => ((fun δ => ((fun δ => ((fun δ => (δ[0]?).join) δ).bind fun x => ((fun _ => some []) δ).bind fun r => some (x :: r)) δ).bind shownD) δ).bind fun d => some (.nx (δ.set 1 (some d)))) (seqO (fun δ => ((fun δ => ((fun δ => ((fun δ => ((fun δ => ((fun δ => ((fun δ => ((fun δ => (δ[0]?).join) δ).bind fun x => ((fun _ => some []) δ).bind fun r => some (x :: r)) δ).bind fun r => if r.length = 1 then fn_is_worth r else none) δ).bind fun x => ((fun _ => some []) δ).bind fun r => some (x :: r)) δ).bind shownD) δ).bind fun x => ((fun δ => ((fun δ => ((fun δ => ((fun δ => ((fun δ => (δ[0]?).join) δ).bind fun x => ((fun _ => some []) δ).bind fun r => some (x :: r)) δ).bind fun r => if r.length = 1 then fn__law_own_worth r else none) δ).bind fun x => ((fun _ => some []) δ).bind fun r => some (x :: r)) δ).bind shownD) δ).bind fun y => (neD x y).bind asB) δ).bind fun k => if k then some true else (fun δ => ((fun δ => ((fun δ => ((fun δ => (δ[0]?).join) δ).bind fun x => ((fun _ => some []) δ).bind fun r => some (x :: r)) δ).bind fun r => (rev1 r).bind fun r' => if r'.length = 1 then fn_is_worth r' else none) δ).bind fun x => ((fun δ => ((fun δ => ((fun δ => (δ[0]?).join) δ).bind fun x => ((fun _ => some []) δ).bind fun r => some (x :: r)) δ).bind fun r => if r.length = 1 then fn__law_own_worth r else none) δ).bind fun y => (neD x y).bind asB) δ) δ).bind fun k => if k then (seqO (fun δ => ((fun _ => some (.bool false)) δ).bind fun d => some (.rt d)) (fun δ => some (.nx δ))) δ else (fun δ => some (.nx δ)) δ) (seqO (fun δ => ((andV (fun δ => ((fun δ => ((fun δ => ((fun δ => ((fun δ => ((fun δ => (δ[0]?).join) δ).bind fun x => ((fun _ => some []) δ).bind fun r => some (x :: r)) δ).bind fun r => if r.length = 1 then fn_is_word r else none) δ).bind fun x => ((fun _ => some []) δ).bind fun r => some (x :: r)) δ).bind shownD) δ).bind fun x => ((fun δ => ((fun δ => ((fun δ => ((fun δ => ((fun δ => (δ[0]?).join) δ).bind fun x => ((fun _ => some []) δ).bind fun r => some (x :: r)) δ).bind fun r => if r.length = 1 then fn__law_own_word r else none) δ).bind fun x => ((fun _ => some []) δ).bind fun r => some (x :: r)) δ).bind shownD) δ).bind fun y => eqD x y) (fun δ => ((fun δ => ((fun δ => ((fun δ => (δ[0]?).join) δ).bind fun x => ((fun _ => some []) δ).bind fun r => some (x :: r)) δ).bind shownD) δ).bind fun x => ((fun δ => (δ[1]?).join) δ).bind fun y => eqD x y)) δ).bind fun d => some (.rt d)) (fun δ => some (.nx δ))))
def fn__law_looks_right : List D → Option D := fnD 2 m__law_looks_right
theorem ok__law_looks_right (T : Fx K mg) (A : Dfn K mg "_law_looks_right" st__law_looks_right ["_law_odd_one"]) (C__law_own_word : Cal P w K mg base "_law_own_word" st__law_own_word 1 ["_law_odd_one"] 1 fn__law_own_word) (C__law_own_worth : CalG P w K mg base "_law_own_worth" st__law_own_worth 2 ["_law_odd_one"] 1 fn__law_own_worth) (C_is_word : Cal P w K mg base "is_word" st_is_word 1 ["thing"] 1 fn_is_word) (C_is_worth : Cal P w K mg base "is_worth" st_is_worth 4 ["thing"] 1 fn_is_worth) : CalG P w K mg base "_law_looks_right" st__law_looks_right 5 ["_law_odd_one"] 1 fn__law_looks_right :=
  mk_defG A sc__law_looks_right rfl fun f cdv A outer s H E hr hG => by
    have hu := hr.units
    exact s_cons (s_set (i := 1) sc__law_looks_right.nd rfl (Or.inl rfl) (p_callB (c_repr hG hu) (by rfl) T.z_repr (by decide +kernel) (l_cons (p_var (pv 0)) (l_nil)))) (s_cons (s_if ((q_or (q_cmp (o_ne hu) (p_callB (c_repr hG hu) (by rfl) T.z_repr (by decide +kernel) (l_cons (c_call C_is_worth hr (by decide) (by rfl) (l_cons (p_var (pv 0)) (l_nil))) (l_nil))) (p_callB (c_repr hG hu) (by rfl) T.z_repr (by decide +kernel) (l_cons (c_callG C__law_own_worth hr (by decide) hG (by rfl) (l_cons (p_var (pv 0)) (l_nil))) (l_nil))) (nobehind _ (by decide) (by decide))) (pw_or1 (q_cmp (o_ne hu) (c_callK (wp := id) (up := id) (perm := rev1) (ks := ["thing"]) C_is_worth hr (by decide) (by rfl) (fun _ _ _ _ _ _ ws hl => match ws, hl with | [_], _ => rfl) (fun h _ => h) rev1_dt (k_cons (p_var (pv 0)) (k_nil))) (c_callG C__law_own_worth hr (by decide) hG (by rfl) (l_cons (p_var (pv 0)) (l_nil))) (nobehind _ (by decide) (by decide))))).pt) (s_cons (s_ret (p_c pe_bl fun _ => .bl _)) (s_nil)) (s_nil)) (s_cons (s_ret (p_and (p_cmp (o_eq hu) (p_callB (c_repr hG hu) (by rfl) T.z_repr (by decide +kernel) (l_cons (c_call C_is_word hr (by decide) (by rfl) (l_cons (p_var (pv 0)) (l_nil))) (l_nil))) (p_callB (c_repr hG hu) (by rfl) T.z_repr (by decide +kernel) (l_cons (c_call C__law_own_word hr (by decide) (by rfl) (l_cons (p_var (pv 0)) (l_nil))) (l_nil))) (nobehind _ (by decide) (by decide))) (pe_one (p_cmp (o_eq hu) (p_callB (c_repr hG hu) (by rfl) T.z_repr (by decide +kernel) (l_cons (p_var (pv 0)) (l_nil))) (p_var (pv 1)) (nobehind _ (by decide) (by decide)))))) (s_nil)))
abbrev st_done : Stmt := topS 14
theorem sc_done : FnScope ["word", "one", "other"] ["word", "one", "other"] (defScope st_done) := ⟨rfl, rfl, rfl, by decide +kernel, rfl, by decide +kernel, by decide +kernel⟩
def m_done : En → Option Out := seqO (fun δ => ((fun δ => ((fun δ => (δ[0]?).join) δ).bind fun x => ((fun _ => some (.str "same")) δ).bind fun y => (eqD x y).bind asB) δ).bind fun k => if k then (seqO (fun δ => ((disp .tuple (fun δ => ((fun _ => some (.str "worth")) δ).bind fun x => ((fun δ => ((fun δ => ((fun δ => ((fun δ => (δ[1]?).join) δ).bind fun x => ((fun δ => ((fun δ => (δ[2]?).join) δ).bind fun x => ((fun _ => some []) δ).bind fun r => some (x :: r)) δ).bind fun r => some (x :: r)) δ).bind fun r => if r.length = 2 then fn_alike r else none) δ).bind fun x => ((fun _ => some []) δ).bind fun r => some (x :: r)) δ).bind fun r => some (x :: r))) δ).bind fun d => some (.rt d)) (fun δ => some (.nx δ))) δ else (fun δ => some (.nx δ)) δ) (seqO (fun δ => ((fun δ => ((fun δ => ((fun δ => ((fun δ => ((fun δ => ((fun δ => (δ[1]?).join) δ).bind fun x => ((fun _ => some []) δ).bind fun r => some (x :: r)) δ).bind fun r => if r.length = 1 then fn_is_number r else none) δ).bind asB) δ).bind fun k => if k then (fun δ => ((fun δ => ((fun δ => ((fun δ => (δ[2]?).join) δ).bind fun x => ((fun _ => some []) δ).bind fun r => some (x :: r)) δ).bind fun r => if r.length = 1 then fn_is_number r else none) δ).bind asB) δ else some false) δ).bind fun k => some !k) δ).bind fun k => if k then (seqO (fun δ => ((disp .tuple (fun δ => ((fun _ => some (.str "fault")) δ).bind fun x => ((fun δ => ((fun _ => some (.str "kind")) δ).bind fun x => ((fun _ => some []) δ).bind fun r => some (x :: r)) δ).bind fun r => some (x :: r))) δ).bind fun d => some (.rt d)) (fun δ => some (.nx δ))) δ else (fun δ => some (.nx δ)) δ) (seqO (fun δ => ((fun δ => ((fun δ => (δ[0]?).join) δ).bind fun x => ((fun _ => some (.str "below")) δ).bind fun y => (eqD x y).bind asB) δ).bind fun k => if k then (seqO (fun δ => ((disp .tuple (fun δ => ((fun _ => some (.str "worth")) δ).bind fun x => ((fun δ => ((fun δ => ((fun δ => (δ[1]?).join) δ).bind fun x => ((fun δ => (δ[2]?).join) δ).bind fun y => (onI fun i j => some (.bool (decide (i < j)))) x y) δ).bind fun x => ((fun _ => some []) δ).bind fun r => some (x :: r)) δ).bind fun r => some (x :: r))) δ).bind fun d => some (.rt d)) (fun δ => some (.nx δ))) δ else (fun δ => some (.nx δ)) δ) (seqO (fun δ => ((fun δ => ((fun δ => ((fun δ => ((fun δ => ((fun δ => (δ[0]?).join) δ).bind fun x => ((fun δ => ((fun δ => (δ[1]?).join) δ).bind fun x => ((fun δ => ((fun δ => (δ[2]?).join) δ).bind fun x => ((fun _ => some []) δ).bind fun r => some (x :: r)) δ).bind fun r => some (x :: r)) δ).bind fun r => some (x :: r)) δ).bind fun r => if r.length = 3 then fn_reckoned r else none) δ).bind fun x => ((fun _ => some []) δ).bind fun r => some (x :: r)) δ).bind fun r => if r.length = 1 then fn_within_bounds r else none) δ).bind fun d => some (.rt d)) (fun δ => some (.nx δ)))))
def fn_done : List D → Option D := fnD 3 m_done
theorem ok_done (T : Fx K mg) (A : Dfn K mg "done" st_done ["word", "one", "other"]) (C_alike : Cal P w K mg base "alike" st_alike 2 ["one", "other"] 2 fn_alike) (C_is_number : Cal P w K mg base "is_number" st_is_number 2 ["thing"] 1 fn_is_number) (C_reckoned : Cal P w K mg base "reckoned" st_reckoned 1 ["word", "one", "other"] 3 fn_reckoned) (C_within_bounds : Cal P w K mg base "within_bounds" st_within_bounds 3 ["number"] 1 fn_within_bounds) : Cal P w K mg base "done" st_done 4 ["word", "one", "other"] 3 fn_done :=
  mk_def A sc_done rfl fun f cdv A outer s H E hr => by
    have hu := hr.units
    exact s_cons (s_if (q_cmp (o_eq hu) (p_var (pv 0)) (p_c pe_str fun _ => .str _) (nobehind _ (by decide) (by decide))) (s_cons (s_ret (p_tup (l_cons (p_c pe_str fun _ => .str _) (l_cons (c_call C_alike hr (by decide) (by rfl) (l_cons (p_var (pv 1)) (l_cons (p_var (pv 2)) (l_nil)))) (l_nil))))) (s_nil)) (s_nil)) (s_cons (s_if (q_not ((q_and (q_val (c_call C_is_number hr (by decide) (by rfl) (l_cons (p_var (pv 1)) (l_nil)))) (pw_and1 (q_val (c_call C_is_number hr (by decide) (by rfl) (l_cons (p_var (pv 2)) (l_nil)))))).pt)) (s_cons (s_ret (p_tup (l_cons (p_c pe_str fun _ => .str _) (l_cons (p_c pe_str fun _ => .str _) (l_nil))))) (s_nil)) (s_nil)) (s_cons (s_if (q_cmp (o_eq hu) (p_var (pv 0)) (p_c pe_str fun _ => .str _) (nobehind _ (by decide) (by decide))) (s_cons (s_ret (p_tup (l_cons (p_c pe_str fun _ => .str _) (l_cons (p_cmp (o_lt) (p_var (pv 1)) (p_var (pv 2)) (nobehind _ (by decide) (by decide))) (l_nil))))) (s_nil)) (s_nil)) (s_cons (s_ret (c_call C_within_bounds hr (by decide) (by rfl) (l_cons (c_call C_reckoned hr (by decide) (by rfl) (l_cons (p_var (pv 0)) (l_cons (p_var (pv 1)) (l_cons (p_var (pv 2)) (l_nil))))) (l_nil)))) (s_nil))))
abbrev st__law_two_right : Stmt := topS 28
theorem sc__law_two_right : FnScope ["_law_left", "_law_right", "_law_deed", "_law_due"] ["_law_left", "_law_right"] (defScope st__law_two_right) := ⟨rfl, rfl, rfl, by decide +kernel, rfl, by decide +kernel, by decide +kernel⟩
def m__law_two_right : En → Option Out := seqO (fun δ => ((fun δ => ((fun δ => ((fun δ => ((fun δ => ((fun δ => ((fun δ => (δ[0]?).join) δ).bind fun x => ((fun δ => ((fun δ => (δ[1]?).join) δ).bind fun x => ((fun _ => some []) δ).bind fun r => some (x :: r)) δ).bind fun r => some (x :: r)) δ).bind fun r => if r.length = 2 then fn_alike r else none) δ).bind fun x => ((fun _ => some []) δ).bind fun r => some (x :: r)) δ).bind shownD) δ).bind fun x => ((fun δ => ((fun δ => ((fun δ => ((fun δ => ((fun δ => (δ[0]?).join) δ).bind fun x => ((fun δ => ((fun δ => (δ[1]?).join) δ).bind fun x => ((fun _ => some []) δ).bind fun r => some (x :: r)) δ).bind fun r => some (x :: r)) δ).bind fun r => if r.length = 2 then fn__law_same r else none) δ).bind fun x => ((fun _ => some []) δ).bind fun r => some (x :: r)) δ).bind shownD) δ).bind fun y => (neD x y).bind asB) δ).bind fun k => if k then (seqO (fun δ => ((fun _ => some (.bool false)) δ).bind fun d => some (.rt d)) (fun δ => some (.nx δ))) δ else (fun δ => some (.nx δ)) δ) (seqO (fun δ => ((fun δ => ((fun δ => ((fun δ => ((fun δ => ((fun δ => ((fun δ => (δ[1]?).join) δ).bind fun x => ((fun δ => ((fun δ => (δ[0]?).join) δ).bind fun x => ((fun _ => some []) δ).bind fun r => some (x :: r)) δ).bind fun r => some (x :: r)) δ).bind fun r => (rev2 r).bind fun r' => if r'.length = 2 then fn_alike r' else none) δ).bind fun x => ((fun _ => some []) δ).bind fun r => some (x :: r)) δ).bind shownD) δ).bind fun x => ((fun δ => ((fun δ => ((fun δ => ((fun δ => ((fun δ => (δ[0]?).join) δ).bind fun x => ((fun δ => ((fun δ => (δ[1]?).join) δ).bind fun x => ((fun _ => some []) δ).bind fun r => some (x :: r)) δ).bind fun r => some (x :: r)) δ).bind fun r => if r.length = 2 then fn__law_same r else none) δ).bind fun x => ((fun _ => some []) δ).bind fun r => some (x :: r)) δ).bind shownD) δ).bind fun y => (neD x y).bind asB) δ).bind fun k => if k then (seqO (fun δ => ((fun _ => some (.bool false)) δ).bind fun d => some (.rt d)) (fun δ => some (.nx δ))) δ else (fun δ => some (.nx δ)) δ) (seqO (fun δ => ((fun _ => some dWORDS) δ).bind fun d => match d with | .tuple ds => loopO 2 (seqO (fun δ => ((fun δ => ((fun δ => ((fun δ => ((fun δ => ((fun δ => (δ[2]?).join) δ).bind fun x => ((fun δ => ((fun δ => (δ[0]?).join) δ).bind fun x => ((fun δ => ((fun δ => (δ[1]?).join) δ).bind fun x => ((fun _ => some []) δ).bind fun r => some (x :: r)) δ).bind fun r => some (x :: r)) δ).bind fun r => some (x :: r)) δ).bind fun r => if r.length = 3 then fn__law_two r else none) δ).bind fun x => ((fun _ => some []) δ).bind fun r => some (x :: r)) δ).bind shownD) δ).bind fun d => some (.nx (δ.set 3 (some d)))) (seqO (fun δ => ((fun δ => ((fun δ => ((fun δ => ((fun δ => ((fun δ => ((fun δ => ((fun δ => (δ[2]?).join) δ).bind fun x => ((fun δ => ((fun δ => (δ[0]?).join) δ).bind fun x => ((fun δ => ((fun δ => (δ[1]?).join) δ).bind fun x => ((fun _ => some []) δ).bind fun r => some (x :: r)) δ).bind fun r => some (x :: r)) δ).bind fun r => some (x :: r)) δ).bind fun r => if r.length = 3 then fn_done r else none) δ).bind fun x => ((fun _ => some []) δ).bind fun r => some (x :: r)) δ).bind shownD) δ).bind fun x => ((fun δ => (δ[3]?).join) δ).bind fun y => (neD x y).bind asB) δ).bind fun k => if k then some true else (fun δ => ((fun δ => ((fun δ => ((fun δ => ((fun δ => ((fun δ => (δ[1]?).join) δ).bind fun x => ((fun δ => ((fun δ => (δ[0]?).join) δ).bind fun x => ((fun δ => ((fun δ => (δ[2]?).join) δ).bind fun x => ((fun _ => some []) δ).bind fun r => some (x :: r)) δ).bind fun r => some (x :: r)) δ).bind fun r => some (x :: r)) δ).bind fun r => (rev3 r).bind fun r' => if r'.length = 3 then fn_done r' else none) δ).bind fun x => ((fun _ => some []) δ).bind fun r => some (x :: r)) δ).bind shownD) δ).bind fun x => ((fun δ => (δ[3]?).join) δ).bind fun y => (neD x y).bind asB) δ) δ).bind fun k => if k then (seqO (fun δ => ((fun _ => some (.bool false)) δ).bind fun d => some (.rt d)) (fun δ => some (.nx δ))) δ else (fun δ => some (.nx δ)) δ) (fun δ => some (.nx δ)))) ds δ | _ => none) (seqO (fun δ => ((fun _ => some (.bool true)) δ).bind fun d => some (.rt d)) (fun δ => some (.nx δ)))))
def fn__law_two_right : List D → Option D := fnD 4 m__law_two_right
theorem ok__law_two_right (T : Fx K mg) (A : Dfn K mg "_law_two_right" st__law_two_right ["_law_left", "_law_right"]) (C__law_same : CalG P w K mg base "_law_same" st__law_same 1 ["_law_one_now", "_law_other_now"] 2 fn__law_same) (C__law_two : CalG P w K mg base "_law_two" st__law_two 2 ["_law_word_now", "_law_one_now", "_law_other_now"] 3 fn__law_two) (C_alike : Cal P w K mg base "alike" st_alike 2 ["one", "other"] 2 fn_alike) (C_done : Cal P w K mg base "done" st_done 4 ["word", "one", "other"] 3 fn_done) : CalG P w K mg base "_law_two_right" st__law_two_right 5 ["_law_left", "_law_right"] 2 fn__law_two_right :=
  mk_defG A sc__law_two_right rfl fun f cdv A outer s H E hr hG => by
    have hu := hr.units
    exact s_cons (s_if (q_cmp (o_ne hu) (p_callB (c_repr hG hu) (by rfl) T.z_repr (by decide +kernel) (l_cons (c_call C_alike hr (by decide) (by rfl) (l_cons (p_var (pv 0)) (l_cons (p_var (pv 1)) (l_nil)))) (l_nil))) (p_callB (c_repr hG hu) (by rfl) T.z_repr (by decide +kernel) (l_cons (c_callG C__law_same hr (by decide) hG (by rfl) (l_cons (p_var (pv 0)) (l_cons (p_var (pv 1)) (l_nil)))) (l_nil))) (nobehind _ (by decide) (by decide))) (s_cons (s_ret (p_c pe_bl fun _ => .bl _)) (s_nil)) (s_nil)) (s_cons (s_if (q_cmp (o_ne hu) (p_callB (c_repr hG hu) (by rfl) T.z_repr (by decide +kernel) (l_cons (c_callK (wp := List.reverse) (up := List.reverse) (perm := rev2) (ks := ["other", "one"]) C_alike hr (by decide) (by rfl) (fun _ _ _ _ _ _ ws hl => match ws, hl with | [_, _], _ => rfl) rev2_v rev2_dt (k_cons (p_var (pv 1)) (k_cons (p_var (pv 0)) (k_nil)))) (l_nil))) (p_callB (c_repr hG hu) (by rfl) T.z_repr (by decide +kernel) (l_cons (c_callG C__law_same hr (by decide) hG (by rfl) (l_cons (p_var (pv 0)) (l_cons (p_var (pv 1)) (l_nil)))) (l_nil))) (nobehind _ (by decide) (by decide))) (s_cons (s_ret (p_c pe_bl fun _ => .bl _)) (s_nil)) (s_nil)) (s_cons (s_forT (i := 2) PassesOwn.never rfl ((Fx.c_WORDS T (by rfl))) sc__law_two_right.nd rfl (Or.inl rfl) (s_cons (s_set (i := 3) sc__law_two_right.nd rfl (Or.inl rfl) (p_callB (c_repr hG hu) (by rfl) T.z_repr (by decide +kernel) (l_cons (c_callG C__law_two hr (by decide) hG (by rfl) (l_cons (p_var (pv 2)) (l_cons (p_var (pv 0)) (l_cons (p_var (pv 1)) (l_nil))))) (l_nil)))) (s_cons (s_if ((q_or (q_cmp (o_ne hu) (p_callB (c_repr hG hu) (by rfl) T.z_repr (by decide +kernel) (l_cons (c_call C_done hr (by decide) (by rfl) (l_cons (p_var (pv 2)) (l_cons (p_var (pv 0)) (l_cons (p_var (pv 1)) (l_nil))))) (l_nil))) (p_var (pv 3)) (nobehind _ (by decide) (by decide))) (pw_or1 (q_cmp (o_ne hu) (p_callB (c_repr hG hu) (by rfl) T.z_repr (by decide +kernel) (l_cons (c_callK (wp := List.reverse) (up := List.reverse) (perm := rev3) (ks := ["other", "one", "word"]) C_done hr (by decide) (by rfl) (fun _ _ _ _ _ _ ws hl => match ws, hl with | [_, _, _], _ => rfl) rev3_v rev3_dt (k_cons (p_var (pv 1)) (k_cons (p_var (pv 0)) (k_cons (p_var (pv 2)) (k_nil))))) (l_nil))) (p_var (pv 3)) (nobehind _ (by decide) (by decide))))).pt) (s_cons (s_ret (p_c pe_bl fun _ => .bl _)) (s_nil)) (s_nil)) (s_nil)))) (s_cons (s_ret (p_c pe_bl fun _ => .bl _)) (s_nil))))
end
end Wm

namespace Wm
open PySem PySem.Spec PyProof.Rows L2
/-! ### a list of two numbers that is drawn from, beside data that never hold it -/
def isPool : List D → Bool
  | [.int _, .int _] => true
  | _ => false
mutual
def np : D → Bool
  | .list ds => !isPool ds && npAll ds
  | .tuple ds => npAll ds
  | .none => true
  | .bool _ => true
  | .int _ => true
  | .str _ => true
  | .dict _ => true
def npAll : List D → Bool
  | [] => true
  | d :: r => np d && npAll r
end
theorem npAll_app : ∀ {a b : List D}, npAll a = true → npAll b = true → npAll (a ++ b) = true
  | [], _, _, h => h
  | d :: r, b, h, g => by
    obtain ⟨h1, h2⟩ := Bool.and_eq_true_iff.mp (show (np d && npAll r) = true from h)
    show (np d && npAll (r ++ b)) = true
    rw [h1, npAll_app h2 g]
    rfl
theorem npAll_at : ∀ {a : List D} {i : Nat} {d : D}, npAll a = true → a[i]? = some d → np d = true
  | [], _, _, _, e => by simp at e
  | x :: r, 0, d, h, e => by
    simp at e
    subst e
    exact (Bool.and_eq_true_iff.mp (show (np x && npAll r) = true from h)).1
  | x :: r, i + 1, d, h, e => npAll_at (Bool.and_eq_true_iff.mp (show (np x && npAll r) = true from h)).2 (by simpa using e)
def PoolAt (H : Hp) (p : Addr) : Prop := ∃ a b, H p = some (.lst [.int a, .int b]) ∧ 0 ≤ b ∧ b < 2147483647
def But (p : Addr) (H H' : Hp) : Prop := ∀ c o, c ≠ p → H c = some o → H' c = some o
structure Sm (p : Addr) (H H' : Hp) : Prop where
  but : But p H H'
  pool : PoolAt H' p
theorem Sm.of {p : Addr} {H H' : Hp} (h : PoolAt H p) (s : Same H H') : Sm p H H' := ⟨fun c o _ e => s c o e, let ⟨a, b, e, q⟩ := h; ⟨a, b, s _ _ e, q⟩⟩
theorem Sm.trans {p : Addr} {H H1 H2 : Hp} (a : Sm p H H1) (b : Sm p H1 H2) : Sm p H H2 := ⟨fun c o n e => b.but c o n (a.but c o n e), b.pool⟩
section
variable {K : PySem.W.Frag} {H H' : Hp} {p : Addr}
mutual
theorem Dt.but (hp : PoolAt H p) (e : But p H H') : ∀ (d : D) (v : V), np d = true → Dt K H v d → Dt K H' v d
  | .none, _, _, h => by cases h; exact .non
  | .bool b, _, _, h => by cases h; exact .bl b
  | .int i, _, _, h => by cases h; exact .int i
  | .str x, _, _, h => by cases h; exact .str x
  | .list ds, _, n, h => by
    obtain ⟨n1, n2⟩ := Bool.and_eq_true_iff.mp (show (!isPool ds && npAll ds) = true from n)
    cases h with
    | lst s a =>
      refine .lst (e _ _ (fun z => ?_) s) (DtAll.but hp e ds _ n2 a)
      subst z
      obtain ⟨x, y, q, _⟩ := hp
      rw [s] at q
      have q' := HO.lst.inj (Option.some.inj q)
      subst q'
      cases a with
      | cons h1 r => cases r with
        | cons h2 r =>
          cases r
          cases h1; cases h2
          cases n1
  | .tuple ds, _, n, h => by
    cases h with
    | tup s a =>
      refine .tup ?_ (DtAll.but hp e ds _ n a)
      obtain ⟨x, y, q, _⟩ := hp
      rcases s with (s | ⟨o, s⟩) | s
      · exact Or.inl (Or.inl (e _ _ (ne_of s q (by intro z; cases z)) s))
      · exact Or.inl (Or.inr ⟨o, e _ _ (ne_of s q (by intro z; cases z)) s⟩)
      · exact Or.inr s
  | .dict _, _, _, h => by
    cases h with
    | nod s =>
      obtain ⟨x, y, q, _⟩ := hp
      exact .nod (e _ _ (ne_of s q (by intro z; cases z)) s)
theorem DtAll.but (hp : PoolAt H p) (e : But p H H') : ∀ (ds : List D) (vs : List V), npAll ds = true → DtAll K H vs ds → DtAll K H' vs ds
  | [], _, _, h => by cases h; exact .nil
  | d :: ds, _, n, h => by
    obtain ⟨n1, n2⟩ := Bool.and_eq_true_iff.mp (show (np d && npAll ds) = true from n)
    cases h with
    | cons a r => exact .cons (Dt.but hp e d _ n1 a) (DtAll.but hp e ds _ n2 r)
end
end
def NpE (δ : En) : Prop := ∀ (i : Nat) (d : D), δ[i]? = some (some d) → np d = true
theorem NpE.set {δ : En} {i : Nat} {d : D} (h : NpE δ) (n : np d = true) : NpE (δ.set i (some d)) := fun j e z => by
  by_cases hj : j = i
  · subst hj
    by_cases hl : j < δ.length
    · rw [List.getElem?_set_self hl] at z; cases z; exact n
    · rw [List.getElem?_eq_none (by simpa using hl)] at z; cases z
  · rw [List.getElem?_set_ne (Ne.symm hj)] at z
    exact h j e z
theorem Er.but {K : PySem.W.Frag} {H H' : Hp} {p : Addr} {σ : L2.St} {δ : En} (h : Er K H σ δ) (n : NpE δ) (hp : PoolAt H p) (e : But p H H') : Er K H' σ δ := ⟨h.1, fun i d q => let ⟨v, a, b⟩ := h.2 i d q; ⟨v, a, Dt.but hp e d v (n i d q) b⟩⟩
structure Wp where
  run : En → (D → Prop) → Prop
  up : ∀ {δ : En} {P Q : D → Prop}, run δ P → (∀ d, np d = true → P d → Q d) → run δ Q
structure WpL where
  run : En → (List D → Prop) → Prop
  up : ∀ {δ : En} {P Q : List D → Prop}, run δ P → (∀ d, npAll d = true → P d → Q d) → run δ Q
structure WpT where
  run : En → (Bool → Prop) → Prop
  up : ∀ {δ : En} {P Q : Bool → Prop}, run δ P → (∀ d, P d → Q d) → run δ Q
def Out.np : Out → Prop
  | .nx δ => NpE δ
  | .rt d => Wm.np d = true
structure WpS where
  run : En → (Out → Prop) → Prop
  up : ∀ {δ : En} {P Q : Out → Prop}, run δ P → (∀ d, d.np → P d → Q d) → run δ Q
/-- slot ip holds the pool at p -/
structure Wt (K : PySem.W.Frag) (p : Addr) (ip : Nat) (σ : L2.St) (H : Hp) (δ : En) : Prop where
  er : Er K H σ δ
  nn : NpE δ
  at_ : σ[ip]? = some (some (.ref p))
  pool : PoolAt H p
theorem Wt.on {K : PySem.W.Frag} {p : Addr} {ip : Nat} {σ : L2.St} {H H' : Hp} {δ : En} (h : Wt K p ip σ H δ) (s : Sm p H H') : Wt K p ip σ H' δ := ⟨h.er.but h.nn h.pool s.but, h.nn, h.at_, s.pool⟩
def tW (K : PySem.W.Frag) (p : Addr) (ip : Nat) (W : Wp) : TE := fun σ H Q => ∃ δ, Wt K p ip σ H δ ∧ W.run δ fun d => ∀ v H', Sm p H H' → Dt K H' v d → Q v H'
def tWL (K : PySem.W.Frag) (p : Addr) (ip : Nat) (W : WpL) : TA := fun σ H Q => ∃ δ, Wt K p ip σ H δ ∧ W.run δ fun ds => ∀ vs H', Sm p H H' → DtAll K H' vs ds → Q vs H'
def tWT (K : PySem.W.Frag) (p : Addr) (ip : Nat) (W : WpT) : TT := fun σ H Q => ∃ δ, Wt K p ip σ H δ ∧ W.run δ fun b => ∀ H', Sm p H H' → Q b H'
def Out.wishW (K : PySem.W.Frag) (p : Addr) (ip : Nat) (H : Hp) (E : Ends) : Out → Prop
  | .nx δ => ∀ σ' H', Sm p H H' → Wt K p ip σ' H' δ → E.nx σ' H'
  | .rt d => ∀ v H', Sm p H H' → Dt K H' v d → E.rt v H'
def tWS (K : PySem.W.Frag) (p : Addr) (ip : Nat) (W : WpS) : TS := fun E σ H => ∃ δ, Wt K p ip σ H δ ∧ W.run δ fun o => o.wishW K p ip H E
theorem wishW_on {K : PySem.W.Frag} {p : Addr} {ip : Nat} {H H1 : Hp} {E : Ends} {o : Out} (h : o.wishW K p ip H E) (s : Sm p H H1) : o.wishW K p ip H1 E := by
  cases o with
  | nx δ => exact fun σ' H' s' w => h σ' H' (s.trans s') w
  | rt d => exact fun v H' s' w => h v H' (s.trans s') w
def wPure (g : En → Option D) : Wp where
  run δ P := ∃ d, g δ = some d ∧ np d = true ∧ P d
  up := fun ⟨d, e, n, h⟩ f => ⟨d, e, n, f d n h⟩
def wOp (g : D → D → Option D) (Wa Wb : Wp) : Wp where
  run δ P := Wa.run δ fun x => Wb.run δ fun y => ∃ z, g x y = some z ∧ np z = true ∧ P z
  up := fun h f => Wa.up h fun x _ h => Wb.up h fun y _ ⟨z, e, n, h⟩ => ⟨z, e, n, f z n h⟩
def wNil : WpL where
  run _ P := P []
  up := fun h f => f [] rfl h
def wCons (Wa : Wp) (Wr : WpL) : WpL where
  run δ P := Wa.run δ fun x => Wr.run δ fun r => P (x :: r)
  up := fun h f => Wa.up h fun x n h => Wr.up h fun r m h => f (x :: r) (by show (np x && npAll r) = true; rw [n, m]; rfl) h
def wTup (W : WpL) : Wp where
  run δ P := W.run δ fun ds => ds.length ≤ 1000 ∧ P (.tuple ds)
  up := fun h f => W.up h fun ds n ⟨l, h⟩ => ⟨l, f _ n h⟩
def wLst (W : WpL) : Wp where
  run δ P := W.run δ fun ds => ds.length ≤ 1000 ∧ isPool ds = false ∧ P (.list ds)
  up := fun h f => W.up h fun ds n ⟨l, i, h⟩ => ⟨l, i, f _ (by show (!isPool ds && npAll ds) = true; rw [i, n]; rfl) h⟩
def wTake (g : En → Option D) : Wp where
  run δ P := ∃ n : Int, g δ = some (.int n) ∧ 0 < n ∧ n ≤ 1000000000 ∧ ∀ r : Int, 0 ≤ r → r < n → P (.int r)
  up := fun ⟨n, e, h1, h2, h⟩ f => ⟨n, e, h1, h2, fun r a b => f _ rfl (h r a b)⟩
/-- the promise of the draw -/
def spTake : Sp := fun vs H Q _ => ∃ (p : Addr) (n : Int), vs = [.ref p, .int n] ∧ 0 < n ∧ n ≤ 1000000000 ∧ PoolAt H p ∧ ∀ (r : Int) H', 0 ≤ r → r < n → Sm p H H' → Q (.int r) H'
section
variable {X : Cx} {p : Addr} {ip : Nat} {e a b : Expr} {es : List Expr} {pos : Pos} {ga : En → Option D} {Wa Wb : Wp} {Wr : WpL}
theorem w_pure (h : PE X e (tP X.K ga)) : PE X e (tW X.K p ip (wPure ga)) := imp h fun σ H Q ⟨δ, w, d, e, n, q⟩ => ⟨δ, d, w.er, e, fun v H' s dv => q v H' (Sm.of w.pool s) dv⟩
theorem w_op {op : Operator} {g : D → D → Option D} (ho : OpR X (binaryOp op) (r2 X.K g)) (ha : PE X a (tW X.K p ip Wa)) (hb : PE X b (tW X.K p ip Wb)) : PE X (.BinOp a op b pos) (tW X.K p ip (wOp g Wa Wb)) :=
  imp (pe_op ho ha hb) fun σ H Q ⟨δ, w, h⟩ => ⟨δ, w, Wa.up h fun x nx h v H1 s1 dv => ⟨δ, w.on s1, Wb.up h fun y _ ⟨z, ez, nz, h⟩ u H2 s2 du => ⟨x, y, z, Dt.but (w.on s1).pool s2.but x v nx dv, du, ez, fun v' H3 s3 dz => h v' H3 (s1.trans (s2.trans (Sm.of s2.pool s3))) dz⟩⟩⟩
theorem w_nil : PA X [] (tWL X.K p ip wNil) := impA pa_nil fun σ H Q ⟨δ, w, h⟩ => h [] H (Sm.of w.pool (Same.refl H)) .nil
theorem w_cons (ha : PE X e (tW X.K p ip Wa)) (hr : PA X es (tWL X.K p ip Wr)) (hs : starEach (e :: es) X.env = (false, eval e X.env) :: starEach es X.env := by rfl) : PA X (e :: es) (tWL X.K p ip (wCons Wa Wr)) :=
  impA (pa_cons ha hr hs) fun σ H Q ⟨δ, w, h⟩ => ⟨δ, w, Wa.up h fun x nx h v H1 s1 dv => ⟨δ, w.on s1, Wr.up h fun r _ h vs H2 s2 dvs => h _ _ (s1.trans s2) (.cons (Dt.but (w.on s1).pool s2.but x v nx dv) dvs)⟩⟩
theorem pool_new {H : Hp} {q : Addr} {o : HO} (h : PoolAt H p) (n : H q = none) : Sm p H (upd H q o) := Sm.of h (same_new n)
theorem w_tup {k : Nat} (h : PA X es (tWL X.K p ip Wr)) : PE X (.Tuple es k pos) (tW X.K p ip (wTup Wr)) := imp (pe_tup h) fun σ H Q ⟨δ, w, h⟩ => ⟨δ, w, Wr.up h fun ds n ⟨l, h⟩ vs H1 s1 dvs => ⟨by rw [dvs.len]; exact Nat.le_of_lt (small1000 l), fun q hq => h _ _ (s1.trans (pool_new s1.pool hq)) (.tup (SqT.of upd_same) (dvs.on (same_new hq)))⟩⟩
theorem w_lst (h : PA X es (tWL X.K p ip Wr)) : PE X (.List es pos) (tW X.K p ip (wLst Wr)) := imp (pe_lst h) fun σ H Q ⟨δ, w, h⟩ => ⟨δ, w, Wr.up h fun ds n ⟨l, _, h⟩ vs H1 s1 dvs => ⟨by rw [dvs.len]; exact Nat.le_of_lt (small1000 l), fun q hq => h _ _ (s1.trans (pool_new s1.pool hq)) (.lst upd_same (dvs.on (same_new hq)))⟩⟩
theorem w_ix (ha : PE X a (tW X.K p ip Wa)) (hb : PE X b (tW X.K p ip Wb)) (hs : PlainIx b) : PE X (.Subscript a b pos) (tW X.K p ip (wOp ixD Wa Wb)) :=
  imp (pe_ix (orI ix_list ix_tup) ha hb hs) fun σ H Q ⟨δ, w, h⟩ => ⟨δ, w, Wa.up h fun x nx h v H1 s1 dv => ⟨δ, w.on s1, Wb.up h fun y _ ⟨z, ez, nz, h⟩ u H2 s2 du => by
    have dx : Dt X.K H2 v x := Dt.but (w.on s1).pool s2.but x v nx dv
    have fin : ∀ (ds : List D) (i : Int) (vs : List V), (if 0 ≤ i then ds[i.toNat]? else none) = some z → DtAll X.K H2 vs ds → ∃ v, atI vs i = some v ∧ Q v H2 := fun ds i vs ez all => by
      by_cases hi : 0 ≤ i
      · rw [if_pos hi] at ez
        obtain ⟨v, ev, dv⟩ := all.at ez
        have e : i = ((i.toNat : Nat) : Int) := by omega
        refine ⟨v, ?_, h v H2 (s1.trans s2) dv⟩
        rw [e]
        exact atI_nat ev
      · rw [if_neg hi] at ez; cases ez
    cases y <;> first | (cases x <;> cases ez; done) | skip
    cases x <;> first | (cases ez; done) | skip
    · cases du
      cases dx with
      | lst s g =>
        obtain ⟨v, ev, t⟩ := fin _ _ _ ez g
        exact .inl ⟨_, _, _, v, rfl, rfl, SqL.of s, ev, t⟩
    · cases du
      cases dx with
      | tup s g =>
        obtain ⟨v, ev, t⟩ := fin _ _ _ ez g
        exact .inr ⟨_, _, _, v, rfl, rfl, s, ev, t⟩⟩⟩
theorem w_take {x y : Str} {p1 p2 : Pos} {f : Addr} {fd : FuncData} {ps : List Str} {k j : Nat} (F : FnOk X.prog X.w X.K X.mg X.base CX0 j f fd ps spTake) (hr : Room k X.A) (hj : j ≤ k) (hg : Gl X x) (hm : X.mg x = some (.ref f)) (hk : PySem.W.keepIn X.K (.ref f) = true) (hb : Binds X.K fd ps [])
    (hy : PE X (.Name y p2) (tVar ip)) (ha : PE X e (tP X.K ga)) (hdb : (x == ("__debug__" : Str)) = false := by decide) (he : starEach [.Name y p2, e] X.env = (false, eval (.Name y p2) X.env) :: starEach [e] X.env := by rfl) (he2 : starEach [e] X.env = (false, eval e X.env) :: starEach [] X.env := by rfl)
    (hpl : (backTo pos (starEach [e] X.env)).any (·.1) = false := by rfl) : PE X (.Call (.Name x p1) [.Name y p2, e] [] pos) (tW X.K p ip (wTake ga)) :=
  imp (pe_call F (hr.mono hj) hg hm hk hb .nil pass0 (pa_cons hy (pa_cons ha pa_nil he2) he) hdb he hpl) fun σ H Q ⟨δ, w, n, en, h1, h2, h⟩ => by
    refine ⟨.ref p, w.at_, δ, .int n, w.er, en, fun v H1 s1 dv => ?_⟩
    cases dv
    exact ⟨p, n, rfl, h1, h2, (Sm.of w.pool s1).pool, fun r H' a b s => h r a b _ _ ((Sm.of w.pool s1).trans s) (.int r)⟩
/-! tests and statements -/
variable {Wq Wq' : WpT} {Ws Ws' : WpS} {rest : List Expr} {c : Expr}
def wqPure (g : En → Option Bool) : WpT where
  run δ P := ∃ b, g δ = some b ∧ P b
  up := fun ⟨d, e, h⟩ f => ⟨d, e, f d h⟩
def wqCmp (g : D → D → Option D) (Wa Wb : Wp) : WpT where
  run δ P := Wa.run δ fun x => Wb.run δ fun y => ∃ b, g x y = some (.bool b) ∧ P b
  up := fun h f => Wa.up h fun x _ h => Wb.up h fun y _ ⟨z, e, h⟩ => ⟨z, e, f z h⟩
def wqOr (A B : WpT) : WpT where
  run δ P := A.run δ fun k => if k = true then P true else B.run δ P
  up := fun h f => A.up h fun k h => by
    cases k with
    | true => exact f true h
    | false => exact B.up h f
theorem wq_pure {q : En → Option Bool} (h : PT X e (tQ X.K q)) : PT X e (tWT X.K p ip (wqPure q)) := impT h fun σ H Q ⟨δ, w, b, e, h⟩ => ⟨δ, b, w.er, e, fun H' s => h H' (Sm.of w.pool s)⟩
theorem wq_cmp {op : CmpOp} {g : D → D → Option D} (ho : OpR X (compareOp op) (r2 X.K g)) (ha : PE X a (tW X.K p ip Wa)) (hb : PE X b (tW X.K p ip Wb)) (hm : behindInMarks op b = false) : PT X (.Compare a [op] [b] pos) (tWT X.K p ip (wqCmp g Wa Wb)) :=
  impT (pt_cmpR ho ha hb hm) fun σ H Q ⟨δ, w, h⟩ => ⟨δ, w, Wa.up h fun x nx h v H1 s1 dv => ⟨δ, w.on s1, Wb.up h fun y _ ⟨z, ez, h⟩ u H2 s2 du => ⟨x, y, .bool z, Dt.but (w.on s1).pool s2.but x v nx dv, du, ez, fun v' H3 s3 dz => by
    cases dz
    exact ⟨z, rfl, h H3 (s1.trans (s2.trans (Sm.of s2.pool s3)))⟩⟩⟩⟩
theorem wq_or (ha : PT X a (tWT X.K p ip Wq)) (hb : PW X (.BoolOp .Or (b :: rest) pos) (tWT X.K p ip Wq')) : PW X (.BoolOp .Or (a :: b :: rest) pos) (tWT X.K p ip (wqOr Wq Wq')) :=
  impW (pw_or ha hb) fun σ H Q ⟨δ, w, h⟩ => ⟨δ, w, Wq.up h fun k h H1 s1 => by
    cases k with
    | true => exact iteT (h H1 s1)
    | false => exact iteF ⟨δ, w.on s1, Wq'.up h fun d h H2 s2 => h H2 (s1.trans s2)⟩⟩
def wsSet (i : Nat) (W : Wp) : WpS where
  run δ P := NpE δ → W.run δ fun d => P (.nx (δ.set i (some d)))
  up := fun h f nn => W.up (h nn) fun d n h => f _ (nn.set n) h
def wsRet (W : Wp) : WpS where
  run δ P := W.run δ fun d => P (.rt d)
  up := fun h f => W.up h fun d n h => f _ n h
def wsIf (A : WpT) (S T : WpS) : WpS where
  run δ P := A.run δ fun k => if k = true then S.run δ P else T.run δ P
  up := fun h f => A.up h fun k h => by
    cases k with
    | true => exact S.up h f
    | false => exact T.up h f
def wsNil : WpS where
  run δ P := NpE δ ∧ P (.nx δ)
  up := fun h f => ⟨h.1, f _ h.1 h.2⟩
def wsSeq (S T : WpS) : WpS where
  run δ P := S.run δ fun o => match o with
    | .nx δ' => T.run δ' P
    | .rt d => P (.rt d)
  up := fun h f => S.up h fun o n h => by
    cases o with
    | nx δ' => exact T.up h f
    | rt d => exact f _ n h
theorem ws_set {i : Nat} {x : Str} {tp : Pos} (hi' : i ≠ ip) (hN : X.N.Nodup) (hi : X.N[i]? = some x) (hx : Loc X.env.scope x) (h : PE X e (tW X.K p ip Wa)) (hs : swapsWith e (some (.Name x tp)) pos.line X.env = pure false := by rfl)
    (hf : X.fn x = true ∨ X.env.scope.names.lookup x = some .local := by first | exact .inl rfl | exact .inr rfl | assumption) : PS X (.Assign [.Name x tp] e pos) (tWS X.K p ip (wsSet i Wa)) :=
  impS (ps_set hN hi hx h hs hf) fun E σ H ⟨δ, w, h⟩ => ⟨δ, w, Wa.up (h w.nn) fun d n h v H1 s1 dv => h _ _ s1 ⟨(w.on s1).er.set i dv, w.nn.set n, by rw [List.getElem?_set_ne hi']; exact w.at_, s1.pool⟩⟩
theorem ws_ret (h : PE X e (tW X.K p ip Wa)) : PS X (.Return (some e) pos) (tWS X.K p ip (wsRet Wa)) := impS (ps_ret h) fun E σ H ⟨δ, w, h⟩ => ⟨δ, w, Wa.up h fun d n h v H1 s1 dv => h v H1 s1 dv⟩
theorem ws_if {a b : List Stmt} (hc : PT X c (tWT X.K p ip Wq)) (ha : PSs X a (tWS X.K p ip Ws)) (hb : PSs X b (tWS X.K p ip Ws')) : PS X (.If c a b pos) (tWS X.K p ip (wsIf Wq Ws Ws')) :=
  impS (ps_if hc ha hb) fun E σ H ⟨δ, w, h⟩ => ⟨δ, w, Wq.up h fun k h H1 s1 => by
    cases k with
    | true => exact iteT ⟨δ, w.on s1, Ws.up h fun o _ h => wishW_on h s1⟩
    | false => exact iteF ⟨δ, w.on s1, Ws'.up h fun o _ h => wishW_on h s1⟩⟩
theorem ws_nil : PSs X [] (tWS X.K p ip wsNil) := impSs pss_nil fun E σ H ⟨δ, w, h⟩ => h.2 σ H (Sm.of w.pool (Same.refl H)) w
theorem ws_cons {st : Stmt} {rest : List Stmt} (h1 : PS X st (tWS X.K p ip Ws)) (h2 : PSs X rest (tWS X.K p ip Ws')) : PSs X (st :: rest) (tWS X.K p ip (wsSeq Ws Ws')) :=
  impSs (pss_cons h1 h2) fun E σ H ⟨δ, w, h⟩ => ⟨δ, w, Ws.up h fun o n h => by
    cases o with
    | nx δ' => exact fun σ' H' s' w' => ⟨δ', w', Ws'.up h fun o _ h => wishW_on h s'⟩
    | rt d => exact h⟩
end
end Wm

namespace Wm
open PySem PySem.Spec PyProof.Rows L2
abbrev st__law_pool : Stmt := topS 18
abbrev st__law_take : Stmt := topS 19
theorem sc__law_pool : FnScope ["_law_script", "_law_k", "_law_cell", "_law_seed"] ["_law_script", "_law_k"] (defScope st__law_pool) := ⟨rfl, rfl, rfl, by decide +kernel, rfl, by decide +kernel, by decide +kernel⟩
theorem sc__law_take : FnScope ["_law_pool_here", "_law_size", "_law_found"] ["_law_pool_here", "_law_size"] (defScope st__law_take) := ⟨rfl, rfl, rfl, by decide +kernel, rfl, by decide +kernel, by decide +kernel⟩
section
variable {P : Program} {w : World} {K : PySem.W.Frag} {mg : Str → Option Value} {base : Heap}
theorem at0 (a b : V) : atI [a, b] 0 = some a := rfl
theorem at1 (a b : V) : atI [a, b] 1 = some b := rfl
theorem but_upd {H : Hp} {p : Addr} {o : HO} : But p H (upd H p o) := fun c x n e => by rw [upd_ne n]; exact e
theorem ok_take {f : Addr} {fd : FuncData} (F : Fun K "_law_take" "_law_take" st__law_take f fd) : FnOk P w K mg base CX0 1 f fd ["_law_pool_here", "_law_size"] spTake := by
  refine F.ok sc__law_take (fun vs H Q E h => ?_) (fun cdv A outer s H vs Q E hr h => ?_)
  · obtain ⟨p, n, rfl, _⟩ := h
    rfl
  · obtain ⟨p, n, rfl, n0, n1, ⟨a, b, hp, b0, b1⟩, q⟩ := h
    refine ⟨_, pss_cons (ps_if (pt_cmpR op_gt (pe_ix ix_list (pv 0) pe_int (fun _ _ => rfl)) pe_int (nomark _))
        (pss_cons (ps_set (i := 2) sc__law_take.nd rfl (Or.inl rfl) (pe_op op_mod (pe_ix ix_list (pv 0) pe_int (fun _ _ => rfl)) (pv 1)))
        (pss_cons (ps_asg (pe_op op_fdivW (pe_ix ix_list (pv 0) pe_int (fun _ _ => rfl)) (pv 1)) (pg_sub (pv 0) pe_int set_list))
        (pss_one (ps_ret (pv 2))))) pss_nil)
      (pss_cons (ps_asg (pe_op op_mod (pe_op op_add (pe_op op_mul (pe_ix ix_list (pv 0) pe_int (fun _ _ => rfl)) pe_int) pe_int) pe_int) (pg_sub (pv 0) pe_int set_list))
      (pss_one (ps_ret (pe_op op_mod (pe_op op_fdiv (pe_op op_mod (pe_op op_mul (pe_ix ix_list (pv 0) pe_int (fun _ _ => rfl)) (pe_ix ix_list (pv 0) pe_int (fun _ _ => rfl))) pe_int) pe_int) (pv 1))))), ?_⟩
    refine ⟨_, rfl, p, _, 0, _, rfl, rfl, SqL.of hp, at0 _ _, _, _, rfl, rfl, _, rfl, ite2 (fun e => ?_) (fun e => ?_)⟩
    · have ha : 0 < a := of_decide_eq_true e
      refine ⟨_, rfl, p, _, 0, _, rfl, rfl, SqL.of hp, at0 _ _, _, rfl, _, _, rfl, rfl, n0, ?_⟩
      refine ⟨_, rfl, p, _, 0, _, rfl, rfl, SqL.of hp, at0 _ _, _, rfl, _, _, rfl, rfl, wide_div (b := 40) n0 (by omega) (by decide) (by decide), ?_⟩
      refine ⟨_, rfl, p, _, 0, 0, rfl, rfl, hp, rfl, ?_⟩
      refine ⟨_, rfl, ?_⟩
      exact q _ _ (Int.emod_nonneg _ (by omega)) (Int.emod_lt_of_pos _ n0) ⟨but_upd, _, _, upd_same, b0, b1⟩
    · refine ⟨_, rfl, p, _, 1, _, rfl, rfl, SqL.of hp, at1 _ _, _, _, rfl, rfl, .inl ⟨by omega, by omega⟩, _, _, rfl, rfl, _, _, rfl, rfl, (by show (0 : Int) < 2147483647; decide), ?_⟩
      refine ⟨_, rfl, p, _, 1, 1, rfl, rfl, hp, rfl, ?_⟩
      have c0 : 0 ≤ (b * 48271 + 11) % 2147483647 := Int.emod_nonneg _ (by omega)
      have c1 : (b * 48271 + 11) % 2147483647 < 2147483647 := Int.emod_lt_of_pos _ (by omega)
      have hq : upd H p (.lst ([V.int a, .int b].set 1 (.int ((b * 48271 + 11) % 2147483647)))) p = some (.lst [.int a, .int ((b * 48271 + 11) % 2147483647)]) := upd_same
      refine ⟨_, rfl, p, _, 1, _, rfl, rfl, SqL.of hq, at1 _ _, _, rfl, p, _, 1, _, rfl, rfl, SqL.of hq, at1 _ _, _, _, rfl, rfl, .inl ⟨by omega, by omega⟩, _, _, rfl, rfl, (by show (0 : Int) < 2147483629; decide), _, _, rfl, rfl, ⟨by decide, by decide⟩, _, rfl, _, _, rfl, rfl, n0, ?_⟩
      exact q _ _ (Int.emod_nonneg _ (by omega)) (Int.emod_lt_of_pos _ n0) ⟨but_upd, _, _, hq, c0, c1⟩
def spPool (K : PySem.W.Frag) : Sp := fun vs H Q _ => ∃ (a : Addr) (ns : List Int) (k : Nat), vs = [.ref a, .int k] ∧ SqL K H a (ns.map V.int) ∧ ns.length ≤ 100 ∧ k ≤ 100 ∧ ∀ p H', Same H H' → PoolAt H' p → H p = none → Q (.ref p) H'
theorem cut_map (ns : List Int) (lo hi : Option Int) : ∃ ms : List Int, cutV (ns.map V.int) lo hi = ms.map V.int ∧ ms.length ≤ ns.length := by
  refine ⟨(ns.drop (HT.sIx ns.length 0 lo)).take (HT.sIx ns.length ns.length hi - HT.sIx ns.length 0 lo), ?_, ?_⟩
  · unfold cutV
    rw [List.length_map, List.map_take, List.map_drop]
  · rw [List.length_take, List.length_drop]; omega
theorem ok_pool (T : Fx K mg) {f : Addr} {fd : FuncData} (F : Fun K "_law_pool" "_law_pool" st__law_pool f fd) : FnOk P w K mg base CX0 1 f fd ["_law_script", "_law_k"] (spPool K) := by
  refine F.ok sc__law_pool (fun vs H Q E h => ?_) (fun cdv A outer s H vs Q E hr h => ?_)
  · obtain ⟨p, n, k, rfl, _⟩ := h
    rfl
  · obtain ⟨a, ns, k, rfl, hS, hl, hk, q⟩ := h
    refine ⟨_, pss_cons (ps_set (i := 2) sc__law_pool.nd rfl (Or.inl rfl) (pe_ix ix_list (pe_op op_cat (pe_slice sl_list (pv 0) (po_some (pv 1)) (po_some (pe_op op_add (pv 1) pe_int))) (pe_lst (pa_cons pe_int pa_nil))) pe_int (fun _ _ => rfl)))
      (pss_cons (ps_set (i := 3) sc__law_pool.nd rfl (Or.inl rfl) (pe_op op_mod (pe_op op_mul (pe_op op_add (pe_op op_add (pe_op op_mod (pv 2) pe_int) (pe_op op_mul pe_int (pv 1))) pe_int) pe_int) pe_int))
      (pss_one (ps_ret (pe_lst (pa_cons (pe_op op_mul (pv 2) (pe_callTy call_int1 (by rfl) T.z_int (by decide +kernel) (pa_cons (pe_cmpR op_ge (pv 2) (pe_op op_pow pe_int pe_int) (nomark _)) pa_nil))) (pa_cons (pv 3) pa_nil)))))), ?_⟩
    refine ⟨_, rfl, _, rfl, _, rfl, _, rfl, _, _, rfl, rfl, _, rfl, a, _, rfl, hS, fun l hl1 => ?_⟩
    obtain ⟨ms, em, lm⟩ := cut_map ns (some (k : Int)) (some ((k : Int) + 1))
    rw [em]
    refine ⟨by show 1 ≤ sizeLine; decide, fun z hz => ?_⟩
    have s1 : Same H (upd H l (.lst (ms.map V.int))) := same_new hl1
    have s2 := same_new (o := .lst [.int 0]) hz
    have nlz : l ≠ z := fun e => by subst e; rw [upd_same] at hz; cases hz
    have g1 : upd (upd H l (.lst (ms.map V.int))) z (.lst [.int 0]) l = some (.lst (ms.map V.int)) := s2 _ _ upd_same
    refine ⟨l, z, _, _, rfl, rfl, g1, upd_same, ?_, fun m hm => ?_⟩
    · rw [List.length_map]; show ms.length + 1 ≤ sizeLine; exact Nat.le_of_lt (small1000 (by omega))
    have s3 := same_new (o := .lst (ms.map V.int ++ [.int 0])) hm
    obtain ⟨c, ec⟩ : ∃ c : Int, atI (ms.map V.int ++ [V.int 0]) 0 = some (.int c) := by
      cases ms with
      | nil => exact ⟨0, rfl⟩
      | cons x r => exact ⟨x, atI_nat (j := 0) rfl⟩
    refine ⟨m, _, 0, _, rfl, rfl, SqL.of upd_same, ec, ?_⟩
    have s123 := s1.trans (s2.trans s3)
    refine ⟨_, rfl, _, _, rfl, rfl, (by show (0 : Int) < 2147483629; decide), _, rfl, _, _, rfl, rfl, .inl ⟨by decide, by decide⟩, _, _, rfl, rfl, _, _, rfl, rfl, _, _, rfl, rfl, .inr ⟨by decide, by decide⟩, _, _, rfl, rfl, (by show (0 : Int) < 2147483647; decide), ?_⟩
    have c0 : ∀ x : Int, 0 ≤ x % 2147483647 := fun x => Int.emod_nonneg _ (by omega)
    have c1 : ∀ x : Int, x % 2147483647 < 2147483647 := fun x => Int.emod_lt_of_pos _ (by omega)
    refine ⟨_, rfl, _, rfl, _, _, rfl, rfl, ⟨by decide, by decide, by decide⟩, _, _, rfl, rfl, .inr ⟨_, rfl, _, _, rfl, rfl, .inr ?_, ?_⟩⟩
    · split <;> exact ⟨by decide, by decide⟩
    · refine ⟨_, rfl, by show 2 ≤ sizeLine; decide, fun t ht => ?_⟩
      exact q t _ (s123.trans (same_new ht)) ⟨_, _, upd_same, c0 _, c1 _⟩ (s123.free ht)
end
end Wm

namespace Wm
open PySem PySem.Spec PyProof.Rows L2
def slTo : D → D → Option D
  | .tuple ds, .int i => if 0 ≤ i then some (.tuple (ds.take i.toNat)) else none
  | _, _ => none
def slFrom : D → D → Option D
  | .tuple ds, .int i => if 0 ≤ i then some (.tuple (ds.drop i.toNat)) else none
  | _, _ => none
theorem slTo_some {x y d : D} (h : slTo x y = some d) : ∃ (ds : List D) (k : Nat), x = .tuple ds ∧ y = .int (k : Nat) ∧ d = .tuple (ds.take k) := by
  cases x <;> first | (cases h; done) | skip
  cases y <;> first | (cases h; done) | skip
  rename_i ds i
  by_cases hi : 0 ≤ i
  · simp only [slTo, if_pos hi] at h
    cases h
    exact ⟨ds, i.toNat, rfl, by rw [Int.toNat_of_nonneg hi], rfl⟩
  · simp only [slTo, if_neg hi] at h; cases h
theorem slFrom_some {x y d : D} (h : slFrom x y = some d) : ∃ (ds : List D) (k : Nat), x = .tuple ds ∧ y = .int (k : Nat) ∧ d = .tuple (ds.drop k) := by
  cases x <;> first | (cases h; done) | skip
  cases y <;> first | (cases h; done) | skip
  rename_i ds i
  by_cases hi : 0 ≤ i
  · simp only [slFrom, if_pos hi] at h
    cases h
    exact ⟨ds, i.toNat, rfl, by rw [Int.toNat_of_nonneg hi], rfl⟩
  · simp only [slFrom, if_neg hi] at h; cases h
section
variable {X : Cx} {e b : Expr} {pos p2 : Pos} {ga gb : En → Option D}
theorem p_slTo (ha : PE X e (tP X.K ga)) (hb : PE X b (tP X.K gb)) : PE X (.Subscript e (.Slice none (some b) none p2) pos) (tP X.K fun δ => (ga δ).bind fun x => (gb δ).bind fun y => slTo x y) :=
  imp (pe_slice sl_tupA ha po_none (po_some hb)) fun σ H Q ⟨δ, d, er, z, q⟩ => by
    obtain ⟨d1, e1, z⟩ := bnd z
    obtain ⟨d2, e2, z⟩ := bnd z
    obtain ⟨ds, k, rfl, rfl, rfl⟩ := slTo_some z
    refine ⟨δ, _, er, e1, fun v H1 s1 dv => ⟨δ, _, er.on s1, e2, fun u H2 s2 du => ?_⟩⟩
    cases du
    refine ⟨_, rfl, ?_⟩
    cases dv.on s2 with
    | tup sq all =>
      rename_i vs
      have f1 : HT.sIx vs.length 0 none = 0 := rfl
      have f2 : HT.sIx vs.length vs.length (some (k : Int)) = min k vs.length := HT.sIx_nat _ _ _
      refine ⟨_, vs, rfl, sq, fun c => ?_, fun c p hp => ?_⟩
      · have : vs.length ≤ k := by rw [f2] at c; omega
        refine q _ _ (s1.trans s2) ?_
        rw [List.take_of_length_le (by rw [← all.len]; exact this)]
        exact .tup sq all
      · have ec : cutV vs none (some (k : Int)) = vs.take k := by
          unfold cutV
          rw [f1, f2, List.drop_zero, Nat.sub_zero]
          by_cases hk : k ≤ vs.length
          · rw [Nat.min_eq_left hk]
          · rw [Nat.min_eq_right (by omega), List.take_length, List.take_of_length_le (by omega)]
        rw [ec]
        exact q _ _ (s1.trans (s2.trans (same_new hp))) (.tup (SqT.of upd_same) ((all.take k).on (same_new hp)))
theorem p_slFrom (ha : PE X e (tP X.K ga)) (hb : PE X b (tP X.K gb)) : PE X (.Subscript e (.Slice (some b) none none p2) pos) (tP X.K fun δ => (ga δ).bind fun x => (gb δ).bind fun y => slFrom x y) :=
  imp (pe_slice sl_tupA ha (po_some hb) po_none) fun σ H Q ⟨δ, d, er, z, q⟩ => by
    obtain ⟨d1, e1, z⟩ := bnd z
    obtain ⟨d2, e2, z⟩ := bnd z
    obtain ⟨ds, k, rfl, rfl, rfl⟩ := slFrom_some z
    refine ⟨δ, _, er, e1, fun v H1 s1 dv => ⟨δ, _, er.on s1, e2, fun u H2 s2 du => ?_⟩⟩
    cases du
    refine ⟨_, rfl, ?_⟩
    cases dv.on s2 with
    | tup sq all =>
      rename_i vs
      have f2 : HT.sIx vs.length 0 (some (k : Int)) = min k vs.length := HT.sIx_nat _ _ _
      have f1 : HT.sIx vs.length vs.length none = vs.length := rfl
      refine ⟨_, vs, rfl, sq, fun c => ?_, fun c p hp => ?_⟩
      · have hk : k = 0 ∨ vs.length = 0 := by rw [f2] at c; omega
        refine q _ _ (s1.trans s2) ?_
        rcases hk with hk | hk
        · subst hk
          rw [List.drop_zero]
          exact .tup sq all
        · have e0 : ds = [] := List.eq_nil_of_length_eq_zero (by rw [← all.len]; exact hk)
          subst e0
          rw [List.drop_nil]
          exact .tup sq all
      · have ec : cutV vs (some (k : Int)) none = vs.drop k := by
          unfold cutV
          rw [f1, f2]
          by_cases hk : k ≤ vs.length
          · rw [Nat.min_eq_left hk, List.take_of_length_le (by rw [List.length_drop]; omega)]
          · rw [Nat.min_eq_right (by omega), Nat.sub_self, List.take_zero, List.drop_eq_nil_of_le (by omega)]
        rw [ec]
        exact q _ _ (s1.trans (s2.trans (same_new hp))) (.tup (SqT.of upd_same) ((all.drop k).on (same_new hp)))
end
section
variable {P : Program} {w : World} {K : PySem.W.Frag} {mg : Str → Option Value} {base : Heap}
/-- a def whose first parameter is the pool: n names, m parameters -/
def spW (K : PySem.W.Frag) (n m : Nat) (W : WpS) : Sp := fun vs H Q _ => ∃ (p : Addr) (ws : List V) (ds : List D), vs = .ref p :: ws ∧ ds.length + 1 = m ∧ DtAll K H ws ds ∧ npAll ds = true ∧ PoolAt H p ∧
  W.run (none :: startD (n - 1) ds) fun o => ∀ v H', Sm p H H' → Dt K H' v o.val → Q v H'
theorem mk_W {x : Str} {st : Stmt} {f : Addr} {fd : FuncData} {N ps : List Str} {k m : Nat} {W : WpS} (F : Fun K x x st f fd) (S : FnScope N ps (defScope st)) (hm : ps.length = m)
    (h : ∀ (p : Addr) (f : Addr) (cdv : Value) (A : Around) (outer : List Env) (s : Shared) (H : Hp) (E : XK), Room k (A.deeper (envOfC x (defScope st) s.heap.objs.size f cdv)) → PSs (cxOf CX0 P w K mg base N x (defScope st) f cdv A outer s H E).nox (defBody st) (tWS K p 0 W)) :
    FnOk P w K mg base CX0 (k + 1) f fd ps (spW K N.length m W) := by
  refine F.ok S (fun vs H Q E z => ?_) (fun cdv A outer s H vs Q E hr z => ?_)
  · obtain ⟨p, ws, ds, rfl, l, all, _⟩ := z
    rw [List.length_cons, all.len, hm]
    exact l
  · obtain ⟨p, ws, ds, rfl, l, all, nn, pl, q⟩ := z
    have hN : 0 < N.length := by
      have e1 := congrArg List.length S.pre
      rw [List.length_take] at e1
      omega
    have ew : Wt K p 0 (L2.start N (.ref p :: ws)) H (none :: startD (N.length - 1) ds) := by
      refine ⟨⟨?_, fun i d e => ?_⟩, fun i d e => ?_, rfl, pl⟩
      · have := all.len
        simp [L2.start, startD]
        omega
      · cases i with
        | zero => cases e
        | succ i =>
          have e : (startD (N.length - 1) ds)[i]? = some (some d) := by simpa using e
          unfold startD at e
          by_cases hi : i < ds.length
          · rw [List.getElem?_append_left (by simpa using hi), List.getElem?_map] at e
            cases qd : ds[i]? with
            | none => rw [qd] at e; cases e
            | some y =>
              rw [qd] at e
              cases e
              obtain ⟨v, ev, dv⟩ := all.at qd
              refine ⟨v, ?_, dv⟩
              unfold L2.start
              rw [List.getElem?_append_left (by simp [all.len]; exact hi), List.getElem?_map, List.getElem?_cons_succ, ev]
              rfl
          · rw [List.getElem?_append_right (by simpa using hi), List.getElem?_replicate] at e
            split at e <;> cases e
      · cases i with
        | zero => cases e
        | succ i =>
          have e : (startD (N.length - 1) ds)[i]? = some (some d) := by simpa using e
          unfold startD at e
          by_cases hi : i < ds.length
          · rw [List.getElem?_append_left (by simpa using hi), List.getElem?_map] at e
            cases qd : ds[i]? with
            | none => rw [qd] at e; cases e
            | some y =>
              rw [qd] at e
              cases e
              exact npAll_at nn qd
          · rw [List.getElem?_append_right (by simpa using hi), List.getElem?_replicate] at e
            split at e <;> cases e
    refine ⟨_, h p f cdv A outer s H E hr, _, ew, W.up q fun o no q => ?_⟩
    cases o with
    | nx δ => exact fun σ' H' s' w' => q .non H' s' .non
    | rt d => exact q
abbrev st__law_drawn : Stmt := topS 25
theorem sc__law_drawn : FnScope ["_law_pool_here", "_law_some"] ["_law_pool_here"] (defScope st__law_drawn) := ⟨rfl, rfl, rfl, by decide +kernel, rfl, by decide +kernel, by decide +kernel⟩
def W__law_drawn : WpS := wsSeq (wsSet 1 (wLst (wCons (wPure (fun _ => some (.int 0))) (wCons (wPure (fun _ => some (.int 1))) (wCons (wPure (fun _ => some (.int 2))) (wCons (wPure (fun δ => ((fun _ => some (.int 1)) δ).bind negD)) (wCons (wPure (fun _ => some (.int 31623))) (wCons (wPure (fun δ => ((fun _ => some (.int 10)) δ).bind fun x => ((fun _ => some (.int 9)) δ).bind fun y => (onI fun i j => if i = 10 ∧ 0 ≤ j ∧ j ≤ 1000 then some (.int (i ^ j.toNat)) else none) x y)) (wCons (wPure (fun δ => ((fun δ => ((fun _ => some (.int 10)) δ).bind fun x => ((fun _ => some (.int 9)) δ).bind fun y => (onI fun i j => if i = 10 ∧ 0 ≤ j ∧ j ≤ 1000 then some (.int (i ^ j.toNat)) else none) x y) δ).bind negD)) (wCons (wPure (fun _ => some (.bool true))) (wCons (wPure (fun _ => some (.bool false))) (wCons (wTup (wCons (wPure (fun _ => some (.str "lot"))) (wCons (wTake (fun _ => some (.int 3))) (wNil)))) (wCons (wPure (disp .tuple (fun δ => ((fun _ => some (.str "lot")) δ).bind fun x => ((fun δ => ((fun δ => ((fun _ => some (.int 10)) δ).bind fun x => ((fun _ => some (.int 20)) δ).bind fun y => (onI fun i j => if i = 10 ∧ 0 ≤ j ∧ j ≤ 1000 then some (.int (i ^ j.toNat)) else none) x y) δ).bind fun x => ((fun _ => some []) δ).bind fun r => some (x :: r)) δ).bind fun r => some (x :: r)))) (wNil)))))))))))))) (wsSeq (wsSet 1 (wOp addD (wPure (fun δ => (δ[1]?).join)) (wLst (wCons (wTup (wCons (wPure (fun _ => some (.str "place"))) (wCons (wTake (fun _ => some (.int 3))) (wCons (wPure (fun _ => some (.str "a"))) (wNil))))) (wCons (wPure (disp .tuple (fun δ => ((fun _ => some (.str "place")) δ).bind fun x => ((fun δ => ((fun _ => some (.int 0)) δ).bind fun x => ((fun δ => ((fun _ => some (.str "abcdef")) δ).bind fun x => ((fun _ => some []) δ).bind fun r => some (x :: r)) δ).bind fun r => some (x :: r)) δ).bind fun r => some (x :: r)))) (wCons (wTake (fun δ => ((fun _ => some (.int 10)) δ).bind fun x => ((fun _ => some (.int 9)) δ).bind fun y => (onI fun i j => if i = 10 ∧ 0 ≤ j ∧ j ≤ 1000 then some (.int (i ^ j.toNat)) else none) x y)) (wNil))))))) (wsSeq (wsRet (wOp ixD (wPure (fun δ => (δ[1]?).join)) (wTake (fun _ => some (.int 14))))) (wsNil)))
theorem ok__law_drawn (T : Fx K mg) {f1 : Addr} {fd1 : FuncData} (F1 : FnOk P w K mg base CX0 1 f1 fd1 ["_law_pool_here", "_law_size"] spTake) (g1 : mg "_law_take" = some (.ref f1)) (k1 : PySem.W.keepIn K (.ref f1) = true) (b1 : Binds K fd1 ["_law_pool_here", "_law_size"] [])
    {f : Addr} {fd : FuncData} (F : Fun K "_law_drawn" "_law_drawn" st__law_drawn f fd) : FnOk P w K mg base CX0 2 f fd ["_law_pool_here"] (spW K 2 1 W__law_drawn) :=
  mk_W F sc__law_drawn rfl fun p f cdv A outer s H E hr => by
    have hu := hr.units
    exact ws_cons (ws_set (i := 1) (by decide) sc__law_drawn.nd rfl (Or.inl rfl) (w_lst (w_cons (w_pure (p_c pe_int fun _ => .int _)) (w_cons (w_pure (p_c pe_int fun _ => .int _)) (w_cons (w_pure (p_c pe_int fun _ => .int _)) (w_cons (w_pure (p_un u_neg (p_c pe_int fun _ => .int _))) (w_cons (w_pure (p_c pe_int fun _ => .int _)) (w_cons (w_pure (p_op o_pow (p_c pe_int fun _ => .int _) (p_c pe_int fun _ => .int _))) (w_cons (w_pure (p_un u_neg (p_op o_pow (p_c pe_int fun _ => .int _) (p_c pe_int fun _ => .int _)))) (w_cons (w_pure (p_c pe_bl fun _ => .bl _)) (w_cons (w_pure (p_c pe_bl fun _ => .bl _)) (w_cons (w_tup (w_cons (w_pure (p_c pe_str fun _ => .str _)) (w_cons (w_take F1 hr (by decide) (by rfl) g1 k1 b1 (pv 0) (p_c pe_int fun _ => .int _)) (w_nil)))) (w_cons (w_pure (p_tup (l_cons (p_c pe_str fun _ => .str _) (l_cons (p_op o_pow (p_c pe_int fun _ => .int _) (p_c pe_int fun _ => .int _)) (l_nil))))) (w_nil)))))))))))))) (ws_cons (ws_set (i := 1) (by decide) sc__law_drawn.nd rfl (Or.inl rfl) (w_op o_addA (w_pure (p_var (pv 1))) (w_lst (w_cons (w_tup (w_cons (w_pure (p_c pe_str fun _ => .str _)) (w_cons (w_take F1 hr (by decide) (by rfl) g1 k1 b1 (pv 0) (p_c pe_int fun _ => .int _)) (w_cons (w_pure (p_c pe_str fun _ => .str _)) (w_nil))))) (w_cons (w_pure (p_tup (l_cons (p_c pe_str fun _ => .str _) (l_cons (p_c pe_int fun _ => .int _) (l_cons (p_c pe_str fun _ => .str _) (l_nil)))))) (w_cons (w_take F1 hr (by decide) (by rfl) g1 k1 b1 (pv 0) (p_op o_pow (p_c pe_int fun _ => .int _) (p_c pe_int fun _ => .int _))) (w_nil))))))) (ws_cons (ws_ret (w_ix (w_pure (p_var (pv 1))) (w_take F1 hr (by decide) (by rfl) g1 k1 b1 (pv 0) (p_c pe_int fun _ => .int _)) (fun _ _ => rfl))) (ws_nil)))
abbrev st__law_bent : Stmt := topS 26
theorem sc__law_bent : FnScope ["_law_pool_here", "_law_worth_now", "_law_odd", "_law_at"] ["_law_pool_here", "_law_worth_now"] (defScope st__law_bent) := ⟨rfl, rfl, rfl, by decide +kernel, rfl, by decide +kernel, by decide +kernel⟩
def W__law_bent : WpS := wsSeq (wsSet 2 (wPure (disp .list (fun δ => ((fun _ => some .none) δ).bind fun x => ((fun δ => ((fun _ => some (.str "")) δ).bind fun x => ((fun δ => ((fun _ => some (.str "lot")) δ).bind fun x => ((fun δ => ((fun δ => ((fun δ => ((fun _ => some (.int 10)) δ).bind fun x => ((fun _ => some (.int 9)) δ).bind fun y => (onI fun i j => if i = 10 ∧ 0 ≤ j ∧ j ≤ 1000 then some (.int (i ^ j.toNat)) else none) x y) δ).bind fun x => ((fun _ => some (.int 1)) δ).bind fun y => addD x y) δ).bind fun x => ((fun δ => ((fun δ => ((fun δ => ((fun δ => ((fun _ => some (.int 10)) δ).bind fun x => ((fun _ => some (.int 9)) δ).bind fun y => (onI fun i j => if i = 10 ∧ 0 ≤ j ∧ j ≤ 1000 then some (.int (i ^ j.toNat)) else none) x y) δ).bind negD) δ).bind fun x => ((fun _ => some (.int 1)) δ).bind fun y => (onI fun i j => some (.int (i - j))) x y) δ).bind fun x => ((fun δ => ((disp .tuple (fun _ => some [])) δ).bind fun x => ((fun δ => ((disp .list (fun _ => some [])) δ).bind fun x => ((fun δ => ((disp .tuple (fun δ => ((fun _ => some (.str "lot")) δ).bind fun x => ((fun _ => some []) δ).bind fun r => some (x :: r))) δ).bind fun x => ((fun δ => ((disp .tuple (fun δ => ((fun _ => some (.str "lot")) δ).bind fun x => ((fun δ => ((fun δ => ((fun _ => some (.int 1)) δ).bind negD) δ).bind fun x => ((fun _ => some []) δ).bind fun r => some (x :: r)) δ).bind fun r => some (x :: r))) δ).bind fun x => ((fun δ => ((disp .tuple (fun δ => ((fun _ => some (.str "lot")) δ).bind fun x => ((fun δ => ((fun _ => some (.bool true)) δ).bind fun x => ((fun _ => some []) δ).bind fun r => some (x :: r)) δ).bind fun r => some (x :: r))) δ).bind fun x => ((fun δ => ((disp .tuple (fun δ => ((fun _ => some (.str "lot")) δ).bind fun x => ((fun δ => ((fun _ => some (.str "1")) δ).bind fun x => ((fun _ => some []) δ).bind fun r => some (x :: r)) δ).bind fun r => some (x :: r))) δ).bind fun x => ((fun _ => some []) δ).bind fun r => some (x :: r)) δ).bind fun r => some (x :: r)) δ).bind fun r => some (x :: r)) δ).bind fun r => some (x :: r)) δ).bind fun r => some (x :: r)) δ).bind fun r => some (x :: r)) δ).bind fun r => some (x :: r)) δ).bind fun r => some (x :: r)) δ).bind fun r => some (x :: r)) δ).bind fun r => some (x :: r)) δ).bind fun r => some (x :: r))))) (wsSeq (wsSet 2 (wPure (fun δ => ((fun δ => (δ[2]?).join) δ).bind fun x => ((disp .list (fun δ => ((disp .tuple (fun δ => ((fun _ => some (.str "Lot")) δ).bind fun x => ((fun δ => ((fun _ => some (.int 1)) δ).bind fun x => ((fun _ => some []) δ).bind fun r => some (x :: r)) δ).bind fun r => some (x :: r))) δ).bind fun x => ((fun δ => ((disp .list (fun δ => ((fun _ => some (.str "lot")) δ).bind fun x => ((fun δ => ((fun _ => some (.int 1)) δ).bind fun x => ((fun _ => some []) δ).bind fun r => some (x :: r)) δ).bind fun r => some (x :: r))) δ).bind fun x => ((fun δ => ((disp .tuple (fun δ => ((fun _ => some (.str "place")) δ).bind fun x => ((fun δ => ((fun _ => some (.int 1)) δ).bind fun x => ((fun _ => some []) δ).bind fun r => some (x :: r)) δ).bind fun r => some (x :: r))) δ).bind fun x => ((fun δ => ((disp .tuple (fun δ => ((fun _ => some (.str "place")) δ).bind fun x => ((fun δ => ((fun _ => some (.int 1)) δ).bind fun x => ((fun δ => ((fun _ => some (.str "A")) δ).bind fun x => ((fun _ => some []) δ).bind fun r => some (x :: r)) δ).bind fun r => some (x :: r)) δ).bind fun r => some (x :: r))) δ).bind fun x => ((fun δ => ((disp .tuple (fun δ => ((fun _ => some (.str "place")) δ).bind fun x => ((fun δ => ((fun δ => ((fun _ => some (.int 1)) δ).bind negD) δ).bind fun x => ((fun δ => ((fun _ => some (.str "a")) δ).bind fun x => ((fun _ => some []) δ).bind fun r => some (x :: r)) δ).bind fun r => some (x :: r)) δ).bind fun r => some (x :: r))) δ).bind fun x => ((fun δ => ((disp .tuple (fun δ => ((fun _ => some (.str "place")) δ).bind fun x => ((fun δ => ((fun _ => some (.bool true)) δ).bind fun x => ((fun δ => ((fun _ => some (.str "a")) δ).bind fun x => ((fun _ => some []) δ).bind fun r => some (x :: r)) δ).bind fun r => some (x :: r)) δ).bind fun r => some (x :: r))) δ).bind fun x => ((fun _ => some []) δ).bind fun r => some (x :: r)) δ).bind fun r => some (x :: r)) δ).bind fun r => some (x :: r)) δ).bind fun r => some (x :: r)) δ).bind fun r => some (x :: r)) δ).bind fun r => some (x :: r))) δ).bind fun y => addD x y))) (wsSeq (wsSet 2 (wPure (fun δ => ((fun δ => (δ[2]?).join) δ).bind fun x => ((disp .list (fun δ => ((disp .tuple (fun δ => ((fun _ => some (.str "place")) δ).bind fun x => ((fun δ => ((fun _ => some (.int 1)) δ).bind fun x => ((fun δ => ((fun _ => some (.str "abcdefg")) δ).bind fun x => ((fun _ => some []) δ).bind fun r => some (x :: r)) δ).bind fun r => some (x :: r)) δ).bind fun r => some (x :: r))) δ).bind fun x => ((fun δ => ((disp .tuple (fun δ => ((fun _ => some (.str "place")) δ).bind fun x => ((fun δ => ((fun _ => some (.int 1)) δ).bind fun x => ((fun δ => ((fun _ => some (.str "")) δ).bind fun x => ((fun _ => some []) δ).bind fun r => some (x :: r)) δ).bind fun r => some (x :: r)) δ).bind fun r => some (x :: r))) δ).bind fun x => ((fun δ => ((disp .tuple (fun δ => ((fun _ => some (.str "lot")) δ).bind fun x => ((fun δ => ((fun _ => some (.int 1)) δ).bind fun x => ((fun δ => ((fun _ => some (.str "a")) δ).bind fun x => ((fun _ => some []) δ).bind fun r => some (x :: r)) δ).bind fun r => some (x :: r)) δ).bind fun r => some (x :: r))) δ).bind fun x => ((fun δ => ((disp .tuple (fun δ => ((fun _ => some (.str "place")) δ).bind fun x => ((fun δ => ((fun _ => some (.int 1)) δ).bind fun x => ((fun δ => ((fun _ => some (.str "a")) δ).bind fun x => ((fun δ => ((fun _ => some (.int 2)) δ).bind fun x => ((fun _ => some []) δ).bind fun r => some (x :: r)) δ).bind fun r => some (x :: r)) δ).bind fun r => some (x :: r)) δ).bind fun r => some (x :: r))) δ).bind fun x => ((fun δ => ((disp .tuple (fun δ => ((fun _ => some (.int 1)) δ).bind fun x => ((fun δ => ((fun _ => some (.int 1)) δ).bind fun x => ((fun _ => some []) δ).bind fun r => some (x :: r)) δ).bind fun r => some (x :: r))) δ).bind fun x => ((fun δ => ((disp .tuple (fun δ => ((fun _ => some (.str "place")) δ).bind fun x => ((fun _ => some []) δ).bind fun r => some (x :: r))) δ).bind fun x => ((fun _ => some []) δ).bind fun r => some (x :: r)) δ).bind fun r => some (x :: r)) δ).bind fun r => some (x :: r)) δ).bind fun r => some (x :: r)) δ).bind fun r => some (x :: r)) δ).bind fun r => some (x :: r))) δ).bind fun y => addD x y))) (wsSeq (wsIf (wqOr (wqPure (fun δ => ((fun δ => ((fun δ => ((fun δ => (δ[1]?).join) δ).bind fun d => some (.bool (isT d))) δ).bind asB) δ).bind fun k => some !k)) (wqCmp eqD (wTake (fun _ => some (.int 2))) (wPure (fun _ => some (.int 0))))) (wsSeq (wsRet (wOp ixD (wPure (fun δ => (δ[2]?).join)) (wTake (fun _ => some (.int 23))))) (wsNil)) (wsNil)) (wsSeq (wsSet 3 (wTake (fun δ => ((fun δ => ((fun δ => (δ[1]?).join) δ).bind fun x => ((fun _ => some []) δ).bind fun r => some (x :: r)) δ).bind lenD))) (wsSeq (wsRet (wOp addD (wOp addD (wPure (fun δ => ((fun δ => (δ[1]?).join) δ).bind fun x => ((fun δ => (δ[3]?).join) δ).bind fun y => slTo x y)) (wTup (wCons (wOp ixD (wPure (fun δ => (δ[2]?).join)) (wTake (fun _ => some (.int 23)))) (wNil)))) (wPure (fun δ => ((fun δ => (δ[1]?).join) δ).bind fun x => ((fun δ => ((fun δ => (δ[3]?).join) δ).bind fun x => ((fun _ => some (.int 1)) δ).bind fun y => addD x y) δ).bind fun y => slFrom x y)))) (wsNil))))))
theorem ok__law_bent (T : Fx K mg) {f1 : Addr} {fd1 : FuncData} (F1 : FnOk P w K mg base CX0 1 f1 fd1 ["_law_pool_here", "_law_size"] spTake) (g1 : mg "_law_take" = some (.ref f1)) (k1 : PySem.W.keepIn K (.ref f1) = true) (b1 : Binds K fd1 ["_law_pool_here", "_law_size"] [])
    {f : Addr} {fd : FuncData} (F : Fun K "_law_bent" "_law_bent" st__law_bent f fd) : FnOk P w K mg base CX0 2 f fd ["_law_pool_here", "_law_worth_now"] (spW K 4 2 W__law_bent) :=
  mk_W F sc__law_bent rfl fun p f cdv A outer s H E hr => by
    have hu := hr.units
    exact ws_cons (ws_set (i := 2) (by decide) sc__law_bent.nd rfl (Or.inl rfl) (w_pure (p_lst (l_cons (p_c pe_non fun _ => .non) (l_cons (p_c pe_str fun _ => .str _) (l_cons (p_c pe_str fun _ => .str _) (l_cons (p_op o_addA (p_op o_pow (p_c pe_int fun _ => .int _) (p_c pe_int fun _ => .int _)) (p_c pe_int fun _ => .int _)) (l_cons (p_op o_sub (p_un u_neg (p_op o_pow (p_c pe_int fun _ => .int _) (p_c pe_int fun _ => .int _))) (p_c pe_int fun _ => .int _)) (l_cons (p_tup (l_nil)) (l_cons (p_lst (l_nil)) (l_cons (p_tup (l_cons (p_c pe_str fun _ => .str _) (l_nil))) (l_cons (p_tup (l_cons (p_c pe_str fun _ => .str _) (l_cons (p_un u_neg (p_c pe_int fun _ => .int _)) (l_nil)))) (l_cons (p_tup (l_cons (p_c pe_str fun _ => .str _) (l_cons (p_c pe_bl fun _ => .bl _) (l_nil)))) (l_cons (p_tup (l_cons (p_c pe_str fun _ => .str _) (l_cons (p_c pe_str fun _ => .str _) (l_nil)))) (l_nil))))))))))))))) (ws_cons (ws_set (i := 2) (by decide) sc__law_bent.nd rfl (Or.inl rfl) (w_pure (p_op o_addA (p_var (pv 2)) (p_lst (l_cons (p_tup (l_cons (p_c pe_str fun _ => .str _) (l_cons (p_c pe_int fun _ => .int _) (l_nil)))) (l_cons (p_lst (l_cons (p_c pe_str fun _ => .str _) (l_cons (p_c pe_int fun _ => .int _) (l_nil)))) (l_cons (p_tup (l_cons (p_c pe_str fun _ => .str _) (l_cons (p_c pe_int fun _ => .int _) (l_nil)))) (l_cons (p_tup (l_cons (p_c pe_str fun _ => .str _) (l_cons (p_c pe_int fun _ => .int _) (l_cons (p_c pe_str fun _ => .str _) (l_nil))))) (l_cons (p_tup (l_cons (p_c pe_str fun _ => .str _) (l_cons (p_un u_neg (p_c pe_int fun _ => .int _)) (l_cons (p_c pe_str fun _ => .str _) (l_nil))))) (l_cons (p_tup (l_cons (p_c pe_str fun _ => .str _) (l_cons (p_c pe_bl fun _ => .bl _) (l_cons (p_c pe_str fun _ => .str _) (l_nil))))) (l_nil))))))))))) (ws_cons (ws_set (i := 2) (by decide) sc__law_bent.nd rfl (Or.inl rfl) (w_pure (p_op o_addA (p_var (pv 2)) (p_lst (l_cons (p_tup (l_cons (p_c pe_str fun _ => .str _) (l_cons (p_c pe_int fun _ => .int _) (l_cons (p_c pe_str fun _ => .str _) (l_nil))))) (l_cons (p_tup (l_cons (p_c pe_str fun _ => .str _) (l_cons (p_c pe_int fun _ => .int _) (l_cons (p_c pe_str fun _ => .str _) (l_nil))))) (l_cons (p_tup (l_cons (p_c pe_str fun _ => .str _) (l_cons (p_c pe_int fun _ => .int _) (l_cons (p_c pe_str fun _ => .str _) (l_nil))))) (l_cons (p_tup (l_cons (p_c pe_str fun _ => .str _) (l_cons (p_c pe_int fun _ => .int _) (l_cons (p_c pe_str fun _ => .str _) (l_cons (p_c pe_int fun _ => .int _) (l_nil)))))) (l_cons (p_tup (l_cons (p_c pe_int fun _ => .int _) (l_cons (p_c pe_int fun _ => .int _) (l_nil)))) (l_cons (p_tup (l_cons (p_c pe_str fun _ => .str _) (l_nil))) (l_nil))))))))))) (ws_cons (ws_if ((wq_or (wq_pure (q_not (q_val (p_isi (Ts := "tuple") kT (by rfl) T.z_isinstance (pe_bltn (by rfl) T.z_tuple (by decide +kernel) rfl) (p_var (pv 1)))))) (pw_or1 (wq_cmp (o_eq hu) (w_take F1 hr (by decide) (by rfl) g1 k1 b1 (pv 0) (p_c pe_int fun _ => .int _)) (w_pure (p_c pe_int fun _ => .int _)) (nobehind _ (by decide) (by decide))))).pt) (ws_cons (ws_ret (w_ix (w_pure (p_var (pv 2))) (w_take F1 hr (by decide) (by rfl) g1 k1 b1 (pv 0) (p_c pe_int fun _ => .int _)) (fun _ _ => rfl))) (ws_nil)) (ws_nil)) (ws_cons (ws_set (i := 3) (by decide) sc__law_bent.nd rfl (Or.inl rfl) (w_take F1 hr (by decide) (by rfl) g1 k1 b1 (pv 0) (p_callB c_len (by rfl) T.z_len (by decide +kernel) (l_cons (p_var (pv 1)) (l_nil))))) (ws_cons (ws_ret (w_op o_addA (w_op o_addA (w_pure (p_slTo (p_var (pv 1)) (p_var (pv 3)))) (w_tup (w_cons (w_ix (w_pure (p_var (pv 2))) (w_take F1 hr (by decide) (by rfl) g1 k1 b1 (pv 0) (p_c pe_int fun _ => .int _)) (fun _ _ => rfl)) (w_nil)))) (w_pure (p_slFrom (p_var (pv 1)) (p_op o_addA (p_var (pv 3)) (p_c pe_int fun _ => .int _)))))) (ws_nil))))))
end
end Wm

namespace Wm
open PySem PySem.Spec
def okB : Option D → Bool
  | some (.bool true) => true
  | _ => false
theorem okB_some {x : Option D} (h : okB x = true) : x = some (.bool true) := by
  match x, h with
  | some (.bool true), _ => rfl
/-! ### numbers -/
theorem n_whole (i : Int) : fn_is_whole [.int i] = some (.bool true) := rfl
theorem n_number {i : Int} (h1 : -1000000000 ≤ i) (h2 : i ≤ 1000000000) : fn_is_number [.int i] = some (.bool true) := by
  simp [fn_is_number, fnD, m_is_number, seqO, startD, andV, chn, asB, onI, negD, n_whole, Out.val, h1, h2]
theorem n_number_no {i : Int} (h : ¬ (-1000000000 ≤ i ∧ i ≤ 1000000000)) : fn_is_number [.int i] = some (.bool false) := by
  by_cases h1 : -1000000000 ≤ i
  · have h2 : ¬ i ≤ 1000000000 := fun q => h ⟨h1, q⟩
    simp [fn_is_number, fnD, m_is_number, seqO, startD, andV, chn, asB, onI, negD, n_whole, Out.val, h1, h2]
  · simp [fn_is_number, fnD, m_is_number, seqO, startD, andV, chn, asB, onI, negD, n_whole, Out.val, h1]
theorem n_written {i : Int} (h1 : -1000000000 ≤ i) (h2 : i ≤ 1000000000) : fn_is_written [.int i] = some (.bool true) := by
  simp [fn_is_written, fnD, m_is_written, seqO, startD, andV, chn, asB, isI, leD, numD, negD, Out.val, h1, h2]
theorem n_worth {i : Int} (h1 : -1000000000 ≤ i) (h2 : i ≤ 1000000000) : fn_is_worth [.int i] = some (.bool true) := by
  have e := n_written h1 h2
  simp [fn_is_worth, fnD, m_is_worth, seqO, startD, orV, asB, e, Out.val]
theorem n_own {i : Int} (h1 : -1000000000 ≤ i) (h2 : i ≤ 1000000000) : fn__law_own_worth [.int i] = some (.bool true) := by
  simp [fn__law_own_worth, fnD, m__law_own_worth, seqO, startD, asB, isB, isI, chn, onI, negD, Out.val, h1, h2]
theorem sh_int {i : Int} (h1 : -1000000000 ≤ i) (h2 : i ≤ 1000000000) : shownD [.int i] = some (.str (PyData.shown (.int i))) := by
  have a : i.natAbs < 10 ^ 12 := by omega
  have b := PyData.shown_int_le a
  have c : i.natAbs.log2 < 1920 := by
    by_cases z : i.natAbs = 0
    · rw [z]; decide
    · exact (Nat.log2_lt z).mpr (Nat.lt_of_lt_of_le a (by decide))
  have e : shownOk (.int i) = true := by
    unfold shownOk
    rw [show PyData.showable (.int i) = true from decide_eq_true c, decide_eq_true (show (PyData.int i).depth ≤ 60 from Nat.zero_le _), decide_eq_true (show (PyData.int i).shown.length ≤ 1000 by omega)]
    rfl
  show (if shownOk (.int i) then _ else _) = _
  rw [if_pos e]
theorem eq_str (x y : Str) : eqD (.str x) (.str y) = some (.bool (decide (x = y))) := rfl
theorem ne_str (x y : Str) : neD (.str x) (.str y) = some (.bool (!decide (x = y))) := rfl
theorem sh_true : shownD [.bool true] = some (.str "True") := by kernel_rfl
theorem sh_false : shownD [.bool false] = some (.str "False") := by kernel_rfl
theorem looks_int {i : Int} (h1 : -1000000000 ≤ i) (h2 : i ≤ 1000000000) : fn__law_looks_right [.int i] = some (.bool true) := by
  have e1 := n_worth h1 h2
  have e2 := n_own h1 h2
  have e3 := sh_int h1 h2
  have e4 : fn_is_word [.int i] = some (.bool false) := rfl
  have e5 : fn__law_own_word [.int i] = some (.bool false) := rfl
  have e6 : neD (.bool true) (.bool true) = some (.bool false) := rfl
  simp [fn__law_looks_right, fnD, m__law_looks_right, seqO, startD, asB, andV, Out.val, rev1, e1, e2, e3, e4, e5, e6, sh_true, sh_false, eq_str, ne_str]
theorem sh_of {X : D} (h : shownOk X = true) : shownD [X] = some (.str X.shown) := by
  show (if shownOk X then _ else _) = _
  rw [if_pos h]
theorem sh_bool (b : Bool) : shownD [.bool b] = some (.str (PyData.shown (.bool b))) := by cases b <;> exact sh_of (by kernel_rfl)
theorem two_right_of {l r : D} {b : Bool} {X1 X2 X3 X4 X5 : D} (hA : fn_alike [l, r] = some (.bool b)) (hS : fn__law_same [l, r] = some (.bool b))
    (t1 : fn__law_two [.str "plus", l, r] = some X1) (d1 : fn_done [.str "plus", l, r] = some X1) (s1 : shownOk X1 = true)
    (t2 : fn__law_two [.str "minus", l, r] = some X2) (d2 : fn_done [.str "minus", l, r] = some X2) (s2 : shownOk X2 = true)
    (t3 : fn__law_two [.str "times", l, r] = some X3) (d3 : fn_done [.str "times", l, r] = some X3) (s3 : shownOk X3 = true)
    (t4 : fn__law_two [.str "below", l, r] = some X4) (d4 : fn_done [.str "below", l, r] = some X4) (s4 : shownOk X4 = true)
    (t5 : fn__law_two [.str "same", l, r] = some X5) (d5 : fn_done [.str "same", l, r] = some X5) (s5 : shownOk X5 = true) : fn__law_two_right [l, r] = some (.bool true) := by
  have hA' : fu_alike 2 [l, r] = some (.bool b) := hA
  simp [fn__law_two_right, fnD, m__law_two_right, seqO, startD, asB, Out.val, rev2, rev3, loopO, dWORDS, hA', hS, sh_bool, ne_str, t1, t2, t3, t4, t5, d1, d2, d3, d4, d5, sh_of s1, sh_of s2, sh_of s3, sh_of s4, sh_of s5]
theorem w_plus_minus : ¬ (Str.ofString "plus" = Str.ofString "minus") := by decide +kernel
theorem w_plus_times : ¬ (Str.ofString "plus" = Str.ofString "times") := by decide +kernel
theorem w_plus_below : ¬ (Str.ofString "plus" = Str.ofString "below") := by decide +kernel
theorem w_plus_same : ¬ (Str.ofString "plus" = Str.ofString "same") := by decide +kernel
theorem w_minus_plus : ¬ (Str.ofString "minus" = Str.ofString "plus") := by decide +kernel
theorem w_minus_times : ¬ (Str.ofString "minus" = Str.ofString "times") := by decide +kernel
theorem w_minus_below : ¬ (Str.ofString "minus" = Str.ofString "below") := by decide +kernel
theorem w_minus_same : ¬ (Str.ofString "minus" = Str.ofString "same") := by decide +kernel
theorem w_times_plus : ¬ (Str.ofString "times" = Str.ofString "plus") := by decide +kernel
theorem w_times_minus : ¬ (Str.ofString "times" = Str.ofString "minus") := by decide +kernel
theorem w_times_below : ¬ (Str.ofString "times" = Str.ofString "below") := by decide +kernel
theorem w_times_same : ¬ (Str.ofString "times" = Str.ofString "same") := by decide +kernel
theorem w_below_plus : ¬ (Str.ofString "below" = Str.ofString "plus") := by decide +kernel
theorem w_below_minus : ¬ (Str.ofString "below" = Str.ofString "minus") := by decide +kernel
theorem w_below_times : ¬ (Str.ofString "below" = Str.ofString "times") := by decide +kernel
theorem w_below_same : ¬ (Str.ofString "below" = Str.ofString "same") := by decide +kernel
theorem w_same_plus : ¬ (Str.ofString "same" = Str.ofString "plus") := by decide +kernel
theorem w_same_minus : ¬ (Str.ofString "same" = Str.ofString "minus") := by decide +kernel
theorem w_same_times : ¬ (Str.ofString "same" = Str.ofString "times") := by decide +kernel
theorem w_same_below : ¬ (Str.ofString "same" = Str.ofString "below") := by decide +kernel
/-! the three deeds of two numbers -/
def wi (z : Int) : D := if -1000000000 ≤ z ∧ z ≤ 1000000000 then .tuple [.str "worth", .int z] else .tuple [.str "fault", .str "great"]
theorem bounds_wi (z : Int) : fn_within_bounds [.int z] = some (wi z) := by
  by_cases h : -1000000000 ≤ z ∧ z ≤ 1000000000
  · have e := n_number h.1 h.2
    simp [fn_within_bounds, fnD, m_within_bounds, seqO, startD, asB, disp, Out.val, e, wi, h]
  · have e := n_number_no h
    simp [fn_within_bounds, fnD, m_within_bounds, seqO, startD, asB, disp, Out.val, e, wi, h]
section
variable {i j : Int} (i1 : -1000000000 ≤ i) (i2 : i ≤ 1000000000) (j1 : -1000000000 ≤ j) (j2 : j ≤ 1000000000)
include i1 i2 j1 j2
theorem sm : small i = true := by
  unfold small
  rw [decide_eq_true (by omega), decide_eq_true (by omega)]
  rfl
theorem done_plus : fn_done [.str "plus", .int i, .int j] = some (wi (i + j)) := by
  have e1 := n_number i1 i2
  have e2 := n_number j1 j2
  have e3 : fn_reckoned [.str "plus", .int i, .int j] = some (.int (i + j)) := by simp [fn_reckoned, fnD, m_reckoned, seqO, startD, asB, Out.val, eq_str, w_plus_minus, w_plus_times, w_plus_below, w_plus_same, w_minus_plus, w_minus_times, w_minus_below, w_minus_same, w_times_plus, w_times_minus, w_times_below, w_times_same, w_below_plus, w_below_minus, w_below_times, w_below_same, w_same_plus, w_same_minus, w_same_times, w_same_below, addD]
  simp [fn_done, fnD, m_done, seqO, startD, asB, andV, disp, Out.val, eq_str, w_plus_minus, w_plus_times, w_plus_below, w_plus_same, w_minus_plus, w_minus_times, w_minus_below, w_minus_same, w_times_plus, w_times_minus, w_times_below, w_times_same, w_below_plus, w_below_minus, w_below_times, w_below_same, w_same_plus, w_same_minus, w_same_times, w_same_below, e1, e2, e3, bounds_wi]
theorem done_minus : fn_done [.str "minus", .int i, .int j] = some (wi (i - j)) := by
  have e1 := n_number i1 i2
  have e2 := n_number j1 j2
  have e3 : fn_reckoned [.str "minus", .int i, .int j] = some (.int (i - j)) := by simp [fn_reckoned, fnD, m_reckoned, seqO, startD, asB, Out.val, eq_str, w_plus_minus, w_plus_times, w_plus_below, w_plus_same, w_minus_plus, w_minus_times, w_minus_below, w_minus_same, w_times_plus, w_times_minus, w_times_below, w_times_same, w_below_plus, w_below_minus, w_below_times, w_below_same, w_same_plus, w_same_minus, w_same_times, w_same_below, onI]
  simp [fn_done, fnD, m_done, seqO, startD, asB, andV, disp, Out.val, eq_str, w_plus_minus, w_plus_times, w_plus_below, w_plus_same, w_minus_plus, w_minus_times, w_minus_below, w_minus_same, w_times_plus, w_times_minus, w_times_below, w_times_same, w_below_plus, w_below_minus, w_below_times, w_below_same, w_same_plus, w_same_minus, w_same_times, w_same_below, e1, e2, e3, bounds_wi]
theorem done_times : fn_done [.str "times", .int i, .int j] = some (wi (i * j)) := by
  have e1 := n_number i1 i2
  have e2 := n_number j1 j2
  have e0 := sm i1 i2 j1 j2
  have e3 : fn_reckoned [.str "times", .int i, .int j] = some (.int (i * j)) := by simp [fn_reckoned, fnD, m_reckoned, seqO, startD, asB, Out.val, eq_str, w_plus_minus, w_plus_times, w_plus_below, w_plus_same, w_minus_plus, w_minus_times, w_minus_below, w_minus_same, w_times_plus, w_times_minus, w_times_below, w_times_same, w_below_plus, w_below_minus, w_below_times, w_below_same, w_same_plus, w_same_minus, w_same_times, w_same_below, onI, e0]
  simp [fn_done, fnD, m_done, seqO, startD, asB, andV, disp, Out.val, eq_str, w_plus_minus, w_plus_times, w_plus_below, w_plus_same, w_minus_plus, w_minus_times, w_minus_below, w_minus_same, w_times_plus, w_times_minus, w_times_below, w_times_same, w_below_plus, w_below_minus, w_below_times, w_below_same, w_same_plus, w_same_minus, w_same_times, w_same_below, e1, e2, e3, bounds_wi]
theorem done_below : fn_done [.str "below", .int i, .int j] = some (.tuple [.str "worth", .bool (decide (i < j))]) := by
  have e1 := n_number i1 i2
  have e2 := n_number j1 j2
  simp [fn_done, fnD, m_done, seqO, startD, asB, andV, disp, Out.val, eq_str, w_plus_minus, w_plus_times, w_plus_below, w_plus_same, w_minus_plus, w_minus_times, w_minus_below, w_minus_same, w_times_plus, w_times_minus, w_times_below, w_times_same, w_below_plus, w_below_minus, w_below_times, w_below_same, w_same_plus, w_same_minus, w_same_times, w_same_below, e1, e2, onI]
theorem two_plus : fn__law_two [.str "plus", .int i, .int j] = some (wi (i + j)) := by
  have e0 := sm i1 i2 j1 j2
  by_cases h1 : -1000000000 ≤ i + j
  · by_cases h2 : i + j ≤ 1000000000
    · simp [fn__law_two, fnD, m__law_two, seqO, startD, asB, disp, Out.val, eq_str, w_plus_minus, w_plus_times, w_plus_below, w_plus_same, w_minus_plus, w_minus_times, w_minus_below, w_minus_same, w_times_plus, w_times_minus, w_times_below, w_times_same, w_below_plus, w_below_minus, w_below_times, w_below_same, w_same_plus, w_same_minus, w_same_times, w_same_below, loopO, isB, isT, addD, onI, e0, indexD, flats, flatD, ixOf, L2.eqV, ixD, chn, negD, wi, h1, h2]
    · simp [fn__law_two, fnD, m__law_two, seqO, startD, asB, disp, Out.val, eq_str, w_plus_minus, w_plus_times, w_plus_below, w_plus_same, w_minus_plus, w_minus_times, w_minus_below, w_minus_same, w_times_plus, w_times_minus, w_times_below, w_times_same, w_below_plus, w_below_minus, w_below_times, w_below_same, w_same_plus, w_same_minus, w_same_times, w_same_below, loopO, isB, isT, addD, onI, e0, indexD, flats, flatD, ixOf, L2.eqV, ixD, chn, negD, wi, h1, h2]
  · simp [fn__law_two, fnD, m__law_two, seqO, startD, asB, disp, Out.val, eq_str, w_plus_minus, w_plus_times, w_plus_below, w_plus_same, w_minus_plus, w_minus_times, w_minus_below, w_minus_same, w_times_plus, w_times_minus, w_times_below, w_times_same, w_below_plus, w_below_minus, w_below_times, w_below_same, w_same_plus, w_same_minus, w_same_times, w_same_below, loopO, isB, isT, addD, onI, e0, indexD, flats, flatD, ixOf, L2.eqV, ixD, chn, negD, wi, h1]
theorem two_minus : fn__law_two [.str "minus", .int i, .int j] = some (wi (i - j)) := by
  have e0 := sm i1 i2 j1 j2
  by_cases h1 : -1000000000 ≤ i - j
  · by_cases h2 : i - j ≤ 1000000000
    · simp [fn__law_two, fnD, m__law_two, seqO, startD, asB, disp, Out.val, eq_str, w_plus_minus, w_plus_times, w_plus_below, w_plus_same, w_minus_plus, w_minus_times, w_minus_below, w_minus_same, w_times_plus, w_times_minus, w_times_below, w_times_same, w_below_plus, w_below_minus, w_below_times, w_below_same, w_same_plus, w_same_minus, w_same_times, w_same_below, loopO, isB, isT, addD, onI, e0, indexD, flats, flatD, ixOf, L2.eqV, ixD, chn, negD, wi, h1, h2]
    · simp [fn__law_two, fnD, m__law_two, seqO, startD, asB, disp, Out.val, eq_str, w_plus_minus, w_plus_times, w_plus_below, w_plus_same, w_minus_plus, w_minus_times, w_minus_below, w_minus_same, w_times_plus, w_times_minus, w_times_below, w_times_same, w_below_plus, w_below_minus, w_below_times, w_below_same, w_same_plus, w_same_minus, w_same_times, w_same_below, loopO, isB, isT, addD, onI, e0, indexD, flats, flatD, ixOf, L2.eqV, ixD, chn, negD, wi, h1, h2]
  · simp [fn__law_two, fnD, m__law_two, seqO, startD, asB, disp, Out.val, eq_str, w_plus_minus, w_plus_times, w_plus_below, w_plus_same, w_minus_plus, w_minus_times, w_minus_below, w_minus_same, w_times_plus, w_times_minus, w_times_below, w_times_same, w_below_plus, w_below_minus, w_below_times, w_below_same, w_same_plus, w_same_minus, w_same_times, w_same_below, loopO, isB, isT, addD, onI, e0, indexD, flats, flatD, ixOf, L2.eqV, ixD, chn, negD, wi, h1]
theorem two_times : fn__law_two [.str "times", .int i, .int j] = some (wi (i * j)) := by
  have e0 := sm i1 i2 j1 j2
  by_cases h1 : -1000000000 ≤ i * j
  · by_cases h2 : i * j ≤ 1000000000
    · simp [fn__law_two, fnD, m__law_two, seqO, startD, asB, disp, Out.val, eq_str, w_plus_minus, w_plus_times, w_plus_below, w_plus_same, w_minus_plus, w_minus_times, w_minus_below, w_minus_same, w_times_plus, w_times_minus, w_times_below, w_times_same, w_below_plus, w_below_minus, w_below_times, w_below_same, w_same_plus, w_same_minus, w_same_times, w_same_below, loopO, isB, isT, addD, onI, e0, indexD, flats, flatD, ixOf, L2.eqV, ixD, chn, negD, wi, h1, h2]
    · simp [fn__law_two, fnD, m__law_two, seqO, startD, asB, disp, Out.val, eq_str, w_plus_minus, w_plus_times, w_plus_below, w_plus_same, w_minus_plus, w_minus_times, w_minus_below, w_minus_same, w_times_plus, w_times_minus, w_times_below, w_times_same, w_below_plus, w_below_minus, w_below_times, w_below_same, w_same_plus, w_same_minus, w_same_times, w_same_below, loopO, isB, isT, addD, onI, e0, indexD, flats, flatD, ixOf, L2.eqV, ixD, chn, negD, wi, h1, h2]
  · simp [fn__law_two, fnD, m__law_two, seqO, startD, asB, disp, Out.val, eq_str, w_plus_minus, w_plus_times, w_plus_below, w_plus_same, w_minus_plus, w_minus_times, w_minus_below, w_minus_same, w_times_plus, w_times_minus, w_times_below, w_times_same, w_below_plus, w_below_minus, w_below_times, w_below_same, w_same_plus, w_same_minus, w_same_times, w_same_below, loopO, isB, isT, addD, onI, e0, indexD, flats, flatD, ixOf, L2.eqV, ixD, chn, negD, wi, h1]
theorem two_below : fn__law_two [.str "below", .int i, .int j] = some (.tuple [.str "worth", .bool (decide (i < j))]) := by
  simp [fn__law_two, fnD, m__law_two, seqO, startD, asB, disp, Out.val, eq_str, w_plus_minus, w_plus_times, w_plus_below, w_plus_same, w_minus_plus, w_minus_times, w_minus_below, w_minus_same, w_times_plus, w_times_minus, w_times_below, w_times_same, w_below_plus, w_below_minus, w_below_times, w_below_same, w_same_plus, w_same_minus, w_same_times, w_same_below, loopO, isB, isT, addD, onI, indexD, flats, flatD, ixOf, L2.eqV, ixD, chn, negD]
end
theorem ok_wi (z : Int) : shownOk (wi z) = true := by
  by_cases h : -1000000000 ≤ z ∧ z ≤ 1000000000
  · have a : z.natAbs < 10 ^ 12 := by omega
    have b := PyData.shown_int_le a
    have c : z.natAbs.log2 < 1920 := by
      by_cases q : z.natAbs = 0
      · rw [q]; decide
      · exact (Nat.log2_lt q).mpr (Nat.lt_of_lt_of_le a (by decide))
    have wz : PyData.weight (.int z) ≤ 41 := by
      unfold PyData.weight
      by_cases q : z.natAbs = 0
      · have : z = 0 := by omega
        subst this
        decide
      · have : z.natAbs.log2 < 40 := (Nat.log2_lt q).mpr (Nat.lt_of_lt_of_le a (by decide))
        split <;> omega
    have d : (PyData.shown (.tuple [.str "worth", .int z])).length ≤ 1000 := by
      have ls : PyData.leavesShort 13 (.tuple [.str "worth", .int z]) = true := by
        show (PyData.leavesShort 13 (.str "worth") && (PyData.leavesShort 13 (.int z) && true)) = true
        rw [show PyData.leavesShort 13 (.str "worth") = true by kernel_rfl, show PyData.leavesShort 13 (.int z) = true from decide_eq_true b]
        rfl
      have e := PyData.shown_le 13 (by decide) _ ls
      have w5 : PyData.weight (.tuple [.str "worth", .int z]) = 5 + 1 + (PyData.weight (.int z) + 1 + 0) := rfl
      rw [w5] at e
      omega
    unfold wi shownOk
    rw [if_pos h, decide_eq_true d, show PyData.showable (.tuple [.str "worth", .int z]) = true by
      show (true && (decide (z.natAbs.log2 < 1920) && true)) = true
      rw [decide_eq_true c]
      rfl]
    rfl
  · unfold wi
    rw [if_neg h]
    kernel_rfl
theorem ok_below (b : Bool) : shownOk (.tuple [.str "worth", .bool b]) = true := by cases b <;> kernel_rfl
theorem two_same {l r : D} {b : Bool} (h : fn__law_same [l, r] = some (.bool b)) : fn__law_two [.str "same", l, r] = some (.tuple [.str "worth", .bool b]) := by
  simp [fn__law_two, fnD, m__law_two, seqO, startD, asB, disp, Out.val, eq_str, h]
theorem done_same {l r : D} {b : Bool} (h : fn_alike [l, r] = some (.bool b)) : fn_done [.str "same", l, r] = some (.tuple [.str "worth", .bool b]) := by
  have h' : fu_alike 2 [l, r] = some (.bool b) := h
  simp [fn_done, fnD, m_done, seqO, startD, asB, disp, Out.val, eq_str, h']
theorem same_of {l r : D} (h1 : shownOk l = true) (h2 : shownOk r = true) : fn__law_same [l, r] = some (.bool (decide (l.shown = r.shown))) := by
  simp [fn__law_same, fnD, m__law_same, seqO, startD, asB, Out.val, eq_str, sh_of h1, sh_of h2]
theorem ok_int {i : Int} (h1 : -1000000000 ≤ i) (h2 : i ≤ 1000000000) : shownOk (.int i) = true := by
  have e := sh_int h1 h2
  cases q : shownOk (.int i) with
  | true => rfl
  | false =>
    have e : (if shownOk (.int i) then some (PyData.str (PyData.shown (.int i))) else none) = _ := e
    rw [q] at e
    cases e
theorem alike_int (i j : Int) : fn_alike [.int i, .int j] = some (.bool (i == j)) := by
  show ((eqD (.int i) (.int j)).bind fun d => some (Out.rt d)).bind (fun o => some o.val) = _
  rfl
theorem int_int {i j : Int} (i1 : -1000000000 ≤ i) (i2 : i ≤ 1000000000) (j1 : -1000000000 ≤ j) (j2 : j ≤ 1000000000) (hs : decide ((PyData.int i).shown = (PyData.int j).shown) = (i == j)) : fn__law_two_right [.int i, .int j] = some (.bool true) := by
  have hA := alike_int i j
  have hS := same_of (ok_int i1 i2) (ok_int j1 j2)
  rw [hs] at hS
  exact two_right_of hA hS (two_plus i1 i2 j1 j2) (done_plus i1 i2 j1 j2) (ok_wi _) (two_minus i1 i2 j1 j2) (done_minus i1 i2 j1 j2) (ok_wi _) (two_times i1 i2 j1 j2) (done_times i1 i2 j1 j2) (ok_wi _)
    (two_below i1 i2 j1 j2) (done_below i1 i2 j1 j2) (ok_below _) (two_same hS) (done_same hA) (ok_below _)
def fk : D := .tuple [.str "fault", .str "kind"]
theorem ok_fk : shownOk fk = true := by kernel_rfl
theorem lk_plus {l r : D} (h : (isB l || isT l) = true ∨ ((isB l || isT l) = false ∧ (isB r || isT r) = true)) : fn__law_two [.str "plus", l, r] = some fk := by
  rcases h with h | ⟨h, g⟩
  · simp [fn__law_two, fnD, m__law_two, seqO, startD, asB, disp, Out.val, eq_str, w_plus_minus, w_plus_times, w_plus_below, w_plus_same, w_minus_plus, w_minus_times, w_minus_below, w_minus_same, w_times_plus, w_times_minus, w_times_below, w_times_same, w_below_plus, w_below_minus, w_below_times, w_below_same, w_same_plus, w_same_minus, w_same_times, w_same_below, loopO, h, fk]
  · simp [fn__law_two, fnD, m__law_two, seqO, startD, asB, disp, Out.val, eq_str, w_plus_minus, w_plus_times, w_plus_below, w_plus_same, w_minus_plus, w_minus_times, w_minus_below, w_minus_same, w_times_plus, w_times_minus, w_times_below, w_times_same, w_below_plus, w_below_minus, w_below_times, w_below_same, w_same_plus, w_same_minus, w_same_times, w_same_below, loopO, h, g, fk]
theorem ld_plus {l r : D} {b : Bool} (h : fn_is_number [l] = some (.bool b)) (g : fn_is_number [r] = some (.bool !b)) : fn_done [.str "plus", l, r] = some fk := by
  cases b <;> simp [fn_done, fnD, m_done, seqO, startD, asB, andV, disp, Out.val, eq_str, w_plus_minus, w_plus_times, w_plus_below, w_plus_same, w_minus_plus, w_minus_times, w_minus_below, w_minus_same, w_times_plus, w_times_minus, w_times_below, w_times_same, w_below_plus, w_below_minus, w_below_times, w_below_same, w_same_plus, w_same_minus, w_same_times, w_same_below, h, g, fk]
theorem lk_minus {l r : D} (h : (isB l || isT l) = true ∨ ((isB l || isT l) = false ∧ (isB r || isT r) = true)) : fn__law_two [.str "minus", l, r] = some fk := by
  rcases h with h | ⟨h, g⟩
  · simp [fn__law_two, fnD, m__law_two, seqO, startD, asB, disp, Out.val, eq_str, w_plus_minus, w_plus_times, w_plus_below, w_plus_same, w_minus_plus, w_minus_times, w_minus_below, w_minus_same, w_times_plus, w_times_minus, w_times_below, w_times_same, w_below_plus, w_below_minus, w_below_times, w_below_same, w_same_plus, w_same_minus, w_same_times, w_same_below, loopO, h, fk]
  · simp [fn__law_two, fnD, m__law_two, seqO, startD, asB, disp, Out.val, eq_str, w_plus_minus, w_plus_times, w_plus_below, w_plus_same, w_minus_plus, w_minus_times, w_minus_below, w_minus_same, w_times_plus, w_times_minus, w_times_below, w_times_same, w_below_plus, w_below_minus, w_below_times, w_below_same, w_same_plus, w_same_minus, w_same_times, w_same_below, loopO, h, g, fk]
theorem ld_minus {l r : D} {b : Bool} (h : fn_is_number [l] = some (.bool b)) (g : fn_is_number [r] = some (.bool !b)) : fn_done [.str "minus", l, r] = some fk := by
  cases b <;> simp [fn_done, fnD, m_done, seqO, startD, asB, andV, disp, Out.val, eq_str, w_plus_minus, w_plus_times, w_plus_below, w_plus_same, w_minus_plus, w_minus_times, w_minus_below, w_minus_same, w_times_plus, w_times_minus, w_times_below, w_times_same, w_below_plus, w_below_minus, w_below_times, w_below_same, w_same_plus, w_same_minus, w_same_times, w_same_below, h, g, fk]
theorem lk_times {l r : D} (h : (isB l || isT l) = true ∨ ((isB l || isT l) = false ∧ (isB r || isT r) = true)) : fn__law_two [.str "times", l, r] = some fk := by
  rcases h with h | ⟨h, g⟩
  · simp [fn__law_two, fnD, m__law_two, seqO, startD, asB, disp, Out.val, eq_str, w_plus_minus, w_plus_times, w_plus_below, w_plus_same, w_minus_plus, w_minus_times, w_minus_below, w_minus_same, w_times_plus, w_times_minus, w_times_below, w_times_same, w_below_plus, w_below_minus, w_below_times, w_below_same, w_same_plus, w_same_minus, w_same_times, w_same_below, loopO, h, fk]
  · simp [fn__law_two, fnD, m__law_two, seqO, startD, asB, disp, Out.val, eq_str, w_plus_minus, w_plus_times, w_plus_below, w_plus_same, w_minus_plus, w_minus_times, w_minus_below, w_minus_same, w_times_plus, w_times_minus, w_times_below, w_times_same, w_below_plus, w_below_minus, w_below_times, w_below_same, w_same_plus, w_same_minus, w_same_times, w_same_below, loopO, h, g, fk]
theorem ld_times {l r : D} {b : Bool} (h : fn_is_number [l] = some (.bool b)) (g : fn_is_number [r] = some (.bool !b)) : fn_done [.str "times", l, r] = some fk := by
  cases b <;> simp [fn_done, fnD, m_done, seqO, startD, asB, andV, disp, Out.val, eq_str, w_plus_minus, w_plus_times, w_plus_below, w_plus_same, w_minus_plus, w_minus_times, w_minus_below, w_minus_same, w_times_plus, w_times_minus, w_times_below, w_times_same, w_below_plus, w_below_minus, w_below_times, w_below_same, w_same_plus, w_same_minus, w_same_times, w_same_below, h, g, fk]
theorem lk_below {l r : D} (h : (isB l || isT l) = true ∨ ((isB l || isT l) = false ∧ (isB r || isT r) = true)) : fn__law_two [.str "below", l, r] = some fk := by
  rcases h with h | ⟨h, g⟩
  · simp [fn__law_two, fnD, m__law_two, seqO, startD, asB, disp, Out.val, eq_str, w_plus_minus, w_plus_times, w_plus_below, w_plus_same, w_minus_plus, w_minus_times, w_minus_below, w_minus_same, w_times_plus, w_times_minus, w_times_below, w_times_same, w_below_plus, w_below_minus, w_below_times, w_below_same, w_same_plus, w_same_minus, w_same_times, w_same_below, loopO, h, fk]
  · simp [fn__law_two, fnD, m__law_two, seqO, startD, asB, disp, Out.val, eq_str, w_plus_minus, w_plus_times, w_plus_below, w_plus_same, w_minus_plus, w_minus_times, w_minus_below, w_minus_same, w_times_plus, w_times_minus, w_times_below, w_times_same, w_below_plus, w_below_minus, w_below_times, w_below_same, w_same_plus, w_same_minus, w_same_times, w_same_below, loopO, h, g, fk]
theorem ld_below {l r : D} {b : Bool} (h : fn_is_number [l] = some (.bool b)) (g : fn_is_number [r] = some (.bool !b)) : fn_done [.str "below", l, r] = some fk := by
  cases b <;> simp [fn_done, fnD, m_done, seqO, startD, asB, andV, disp, Out.val, eq_str, w_plus_minus, w_plus_times, w_plus_below, w_plus_same, w_minus_plus, w_minus_times, w_minus_below, w_minus_same, w_times_plus, w_times_minus, w_times_below, w_times_same, w_below_plus, w_below_minus, w_below_times, w_below_same, w_same_plus, w_same_minus, w_same_times, w_same_below, h, g, fk]
theorem mixed {l r : D} {b : Bool} (hA : fn_alike [l, r] = some (.bool false)) (hS : fn__law_same [l, r] = some (.bool false)) (h : (isB l || isT l) = true ∨ ((isB l || isT l) = false ∧ (isB r || isT r) = true))
    (n1 : fn_is_number [l] = some (.bool b)) (n2 : fn_is_number [r] = some (.bool !b)) : fn__law_two_right [l, r] = some (.bool true) :=
  two_right_of hA hS (lk_plus h) (ld_plus n1 n2) ok_fk (lk_minus h) (ld_minus n1 n2) ok_fk (lk_times h) (ld_times n1 n2) ok_fk (lk_below h) (ld_below n1 n2) ok_fk (two_same hS) (done_same hA) (ok_below _)
/-! what is drawn -/
def lotD (n : Int) : D := .tuple [.str "lot", .int n]
def plcD (n : Int) (x : Str) : D := .tuple [.str "place", .int n, .str x]
def finN : List D := [.int (-1), .int (-1000000000)]
def finT : List D := [.bool true, .bool false, lotD 0, lotD 1, lotD 2, lotD 100000000000000000000, plcD 0 "a", plcD 1 "a", plcD 2 "a", plcD 0 "abcdef"]
theorem shown_inj {n m : Int} (n0 : 0 ≤ n) (n1 : n ≤ 1000000000) (m0 : 0 ≤ m) (m1 : m ≤ 1000000000) : decide ((PyData.int n).shown = (PyData.int m).shown) = (n == m) := by
  by_cases h : n = m
  · subst h
    simp
  · rw [beq_eq_false_iff_ne.mpr h]
    refine decide_eq_false fun e => h ?_
    rw [PyData.shown_int, PyData.shown_int] at e
    have a := PySem.W.KIN.num_reads n0 (by omega)
    have b := PySem.W.KIN.num_reads m0 (by omega)
    rw [show Str.ofString (toString n) = Str.ofString (toString m) from e, b] at a
    exact (Option.some.inj a).symm
def noNum (s : Str) : Bool := match PySem.intText? s with
  | some z => decide (z < 0)
  | none => true
theorem shown_no {n : Int} {s : Str} (n0 : 0 ≤ n) (n1 : n ≤ 1000000000) (h : noNum s = true) : (PyData.int n).shown ≠ s := fun e => by
  rw [PyData.shown_int] at e
  have a := PySem.W.KIN.num_reads n0 (by omega)
  rw [show Str.ofString (toString n) = s from e] at a
  unfold noNum at h
  rw [a] at h
  have := of_decide_eq_true h
  omega
theorem finN_no : ∀ d ∈ finN, noNum d.shown = true := by
  intro d hd
  simp only [finN, List.mem_cons, List.not_mem_nil, or_false] at hd
  rcases hd with rfl | rfl <;> decide +kernel
theorem finT_no : ∀ d ∈ finT, noNum d.shown = true := by
  intro d hd
  simp only [finT, List.mem_cons, List.not_mem_nil, or_false] at hd
  rcases hd with rfl | rfl | rfl | rfl | rfl | rfl | rfl | rfl | rfl | rfl <;> decide +kernel
end Wm

namespace Wm
open PySem PySem.Spec
structure FinT (d : D) : Prop where
  sh : shownOk d = true
  num : fn_is_number [d] = some (.bool false)
  bt : (isB d || isT d) = true
  al : ∀ n : Int, fn_alike [.int n, d] = some (.bool false)
  la : ∀ n : Int, fn_alike [d, .int n] = some (.bool false)
theorem finT_is : ∀ d ∈ finT, FinT d := by
  intro d hd
  simp only [finT, List.mem_cons, List.not_mem_nil, or_false] at hd
  rcases hd with rfl | rfl | rfl | rfl | rfl | rfl | rfl | rfl | rfl | rfl
  all_goals exact ⟨by decide +kernel, by kernel_rfl, rfl, fun n => by kernel_rfl, fun n => by kernel_rfl⟩
/-- what may be drawn -/
def Sd (d : D) : Prop := (∃ n : Int, 0 ≤ n ∧ n ≤ 1000000000 ∧ d = .int n) ∨ d ∈ finN ∨ d ∈ finT
def fin : List D := finN ++ finT
theorem fin_looks : fin.all (fun d => okB (fn__law_looks_right [d])) = true := by decide +kernel
theorem fin_two : fin.all (fun a => fin.all fun b => okB (fn__law_two_right [a, b])) = true := by decide +kernel
theorem m_looks {d : D} (h : Sd d) : fn__law_looks_right [d] = some (.bool true) := by
  rcases h with ⟨n, n0, n1, rfl⟩ | h | h
  · exact looks_int (by omega) n1
  · exact okB_some (List.all_eq_true.mp fin_looks d (List.mem_append_left _ h))
  · exact okB_some (List.all_eq_true.mp fin_looks d (List.mem_append_right _ h))
theorem finN_int {d : D} (h : d ∈ finN) : ∃ z : Int, d = .int z ∧ -1000000000 ≤ z ∧ z < 0 := by
  simp only [finN, List.mem_cons, List.not_mem_nil, or_false] at h
  rcases h with rfl | rfl
  · exact ⟨_, rfl, by omega, by omega⟩
  · exact ⟨_, rfl, by omega, by omega⟩
theorem m_two {l r : D} (h : Sd l) (g : Sd r) : fn__law_two_right [l, r] = some (.bool true) := by
  have ff : ∀ {a b : D}, a ∈ fin → b ∈ fin → fn__law_two_right [a, b] = some (.bool true) := fun ha hb => okB_some (List.all_eq_true.mp (List.all_eq_true.mp fin_two _ ha) _ hb)
  have inN : ∀ {d : D}, d ∈ finN → d ∈ fin := fun h => List.mem_append_left _ h
  have inT : ∀ {d : D}, d ∈ finT → d ∈ fin := fun h => List.mem_append_right _ h
  rcases h with ⟨n, n0, n1, rfl⟩ | h
  · rcases g with ⟨m, m0, m1, rfl⟩ | g | g
    · exact int_int (by omega) n1 (by omega) m1 (shown_inj n0 n1 m0 m1)
    · obtain ⟨z, rfl, z0, z1⟩ := finN_int g
      refine int_int (by omega) n1 z0 (by omega) ?_
      rw [decide_eq_false (shown_no n0 n1 (finN_no _ g))]
      exact (beq_eq_false_iff_ne.mpr (by omega)).symm
    · have F := finT_is r g
      refine mixed (b := true) (F.al n) ?_ (.inr ⟨rfl, F.bt⟩) (n_number (by omega) n1) F.num
      rw [same_of (ok_int (by omega) n1) F.sh, decide_eq_false (shown_no n0 n1 (finT_no _ g))]
  · have hf : l ∈ fin := h.elim inN inT
    rcases g with ⟨m, m0, m1, rfl⟩ | g
    · rcases h with h | h
      · obtain ⟨z, rfl, z0, z1⟩ := finN_int h
        refine int_int z0 (by omega) (by omega) m1 ?_
        rw [decide_eq_false fun e => shown_no m0 m1 (finN_no _ h) e.symm]
        exact (beq_eq_false_iff_ne.mpr (by omega)).symm
      · have F := finT_is l h
        refine mixed (b := false) (F.la m) ?_ (.inl F.bt) F.num (n_number (by omega) m1)
        rw [same_of F.sh (ok_int (by omega) m1), decide_eq_false fun e => shown_no m0 m1 (finT_no _ h) e.symm]
    · exact ff hf (g.elim inN inT)
theorem lot_in {r : Int} (h0 : 0 ≤ r) (h1 : r < 3) : lotD r ∈ finT := by
  have : r = 0 ∨ r = 1 ∨ r = 2 := by omega
  rcases this with rfl | rfl | rfl <;> simp [finT]
theorem plc_in {r : Int} (h0 : 0 ≤ r) (h1 : r < 3) : plcD r "a" ∈ finT := by
  have : r = 0 ∨ r = 1 ∨ r = 2 := by omega
  rcases this with rfl | rfl | rfl <;> simp [finT]
theorem sInt {n : Int} (h0 : 0 ≤ n) (h1 : n ≤ 1000000000) : Sd (.int n) := .inl ⟨n, h0, h1, rfl⟩
theorem m_drawn : W__law_drawn.run (none :: startD 1 []) fun o => Sd o.val := by
  intro _
  refine ⟨.int 0, rfl, rfl, .int 1, rfl, rfl, .int 2, rfl, rfl, .int (-1), rfl, rfl, .int 31623, rfl, rfl, .int 1000000000, rfl, rfl, .int (-1000000000), rfl, rfl, .bool true, rfl, rfl, .bool false, rfl, rfl, ?_⟩
  refine ⟨.str "lot", rfl, rfl, 3, rfl, by decide, by decide, fun a a0 a1 => ⟨by show 2 ≤ 1000; decide, ?_⟩⟩
  refine ⟨lotD 100000000000000000000, rfl, rfl, by show 11 ≤ 1000; decide, rfl, ?_⟩
  intro _
  refine ⟨_, rfl, rfl, .str "place", rfl, rfl, 3, rfl, by decide, by decide, fun b b0 b1 => ⟨.str "a", rfl, rfl, by show 3 ≤ 1000; decide, ?_⟩⟩
  refine ⟨plcD 0 "abcdef", rfl, rfl, 1000000000, rfl, by decide, by decide, fun c c0 c1 => ⟨by show 3 ≤ 1000; decide, rfl, ?_⟩⟩
  refine ⟨_, rfl, rfl, ?_⟩
  refine ⟨_, rfl, rfl, 14, rfl, by decide, by decide, fun i i0 i1 => ?_⟩
  have hi : i = 0 ∨ i = 1 ∨ i = 2 ∨ i = 3 ∨ i = 4 ∨ i = 5 ∨ i = 6 ∨ i = 7 ∨ i = 8 ∨ i = 9 ∨ i = 10 ∨ i = 11 ∨ i = 12 ∨ i = 13 := by omega
  rcases hi with rfl | rfl | rfl | rfl | rfl | rfl | rfl | rfl | rfl | rfl | rfl | rfl | rfl | rfl
  · exact ⟨_, rfl, rfl, sInt (by omega) (by omega)⟩
  · exact ⟨_, rfl, rfl, sInt (by omega) (by omega)⟩
  · exact ⟨_, rfl, rfl, sInt (by omega) (by omega)⟩
  · exact ⟨_, rfl, rfl, .inr (.inl (by simp [finN, Out.val]))⟩
  · exact ⟨_, rfl, rfl, sInt (by omega) (by omega)⟩
  · exact ⟨_, rfl, rfl, sInt (by omega) (by omega)⟩
  · exact ⟨_, rfl, rfl, .inr (.inl (by simp [finN, Out.val]))⟩
  · exact ⟨_, rfl, rfl, .inr (.inr (by simp [finT, Out.val]))⟩
  · exact ⟨_, rfl, rfl, .inr (.inr (by simp [finT, Out.val]))⟩
  · exact ⟨_, rfl, rfl, .inr (.inr (lot_in a0 a1))⟩
  · exact ⟨_, rfl, rfl, .inr (.inr (by simp [finT, Out.val]))⟩
  · exact ⟨_, rfl, rfl, .inr (.inr (plc_in b0 b1))⟩
  · exact ⟨_, rfl, rfl, .inr (.inr (by simp [finT, Out.val]))⟩
  · exact ⟨_, rfl, rfl, sInt c0 (by omega)⟩
end Wm

namespace Wm
open PySem PySem.Spec
def oddL : List D := [.none, .str "", .str "lot", .int 1000000001, .int (-1000000001), .tuple [], .list [], .tuple [.str "lot"], .tuple [.str "lot", .int (-1)], .tuple [.str "lot", .bool true], .tuple [.str "lot", .str "1"],
  .tuple [.str "Lot", .int 1], .list [.str "lot", .int 1], .tuple [.str "place", .int 1], .tuple [.str "place", .int 1, .str "A"], .tuple [.str "place", .int (-1), .str "a"], .tuple [.str "place", .bool true, .str "a"],
  .tuple [.str "place", .int 1, .str "abcdefg"], .tuple [.str "place", .int 1, .str ""], .tuple [.str "lot", .int 1, .str "a"], .tuple [.str "place", .int 1, .str "a", .int 2], .tuple [.int 1, .int 1], .tuple [.str "place"]]
def tups : List (List D) := [[.str "lot", .int 0], [.str "lot", .int 1], [.str "lot", .int 2], [.str "lot", .int 100000000000000000000], [.str "place", .int 0, .str "a"], [.str "place", .int 1, .str "a"], [.str "place", .int 2, .str "a"], [.str "place", .int 0, .str "abcdef"]]
theorem odd_np : oddL.all np = true := by decide +kernel
theorem odd_looks : oddL.all (fun d => okB (fn__law_looks_right [d])) = true := by decide +kernel
def bentOk (ds : List D) (k : Nat) : Bool := oddL.all fun o => okB (fn__law_looks_right [.tuple (ds.take k ++ [o] ++ ds.drop (k + 1))])
theorem bl_0_0 : bentOk [.str "lot", .int 0] 0 = true := by decide +kernel
theorem bl_0_1 : bentOk [.str "lot", .int 0] 1 = true := by decide +kernel
theorem bl_1_0 : bentOk [.str "lot", .int 1] 0 = true := by decide +kernel
theorem bl_1_1 : bentOk [.str "lot", .int 1] 1 = true := by decide +kernel
theorem bl_2_0 : bentOk [.str "lot", .int 2] 0 = true := by decide +kernel
theorem bl_2_1 : bentOk [.str "lot", .int 2] 1 = true := by decide +kernel
theorem bl_3_0 : bentOk [.str "lot", .int 100000000000000000000] 0 = true := by decide +kernel
theorem bl_3_1 : bentOk [.str "lot", .int 100000000000000000000] 1 = true := by decide +kernel
theorem bl_4_0 : bentOk [.str "place", .int 0, .str "a"] 0 = true := by decide +kernel
theorem bl_4_1 : bentOk [.str "place", .int 0, .str "a"] 1 = true := by decide +kernel
theorem bl_4_2 : bentOk [.str "place", .int 0, .str "a"] 2 = true := by decide +kernel
theorem bl_5_0 : bentOk [.str "place", .int 1, .str "a"] 0 = true := by decide +kernel
theorem bl_5_1 : bentOk [.str "place", .int 1, .str "a"] 1 = true := by decide +kernel
theorem bl_5_2 : bentOk [.str "place", .int 1, .str "a"] 2 = true := by decide +kernel
theorem bl_6_0 : bentOk [.str "place", .int 2, .str "a"] 0 = true := by decide +kernel
theorem bl_6_1 : bentOk [.str "place", .int 2, .str "a"] 1 = true := by decide +kernel
theorem bl_6_2 : bentOk [.str "place", .int 2, .str "a"] 2 = true := by decide +kernel
theorem bl_7_0 : bentOk [.str "place", .int 0, .str "abcdef"] 0 = true := by decide +kernel
theorem bl_7_1 : bentOk [.str "place", .int 0, .str "abcdef"] 1 = true := by decide +kernel
theorem bl_7_2 : bentOk [.str "place", .int 0, .str "abcdef"] 2 = true := by decide +kernel
theorem bent_looks : ∀ ds ∈ tups, ∀ k, k < ds.length → bentOk ds k = true := by
  intro ds hd k hk
  simp only [tups, List.mem_cons, List.not_mem_nil, or_false] at hd
  rcases hd with rfl | rfl | rfl | rfl | rfl | rfl | rfl | rfl
  · have hk : k < 2 := hk
    match k, hk with
    | 0, _ => exact bl_0_0
    | 1, _ => exact bl_0_1
  · have hk : k < 2 := hk
    match k, hk with
    | 0, _ => exact bl_1_0
    | 1, _ => exact bl_1_1
  · have hk : k < 2 := hk
    match k, hk with
    | 0, _ => exact bl_2_0
    | 1, _ => exact bl_2_1
  · have hk : k < 2 := hk
    match k, hk with
    | 0, _ => exact bl_3_0
    | 1, _ => exact bl_3_1
  · have hk : k < 3 := hk
    match k, hk with
    | 0, _ => exact bl_4_0
    | 1, _ => exact bl_4_1
    | 2, _ => exact bl_4_2
  · have hk : k < 3 := hk
    match k, hk with
    | 0, _ => exact bl_5_0
    | 1, _ => exact bl_5_1
    | 2, _ => exact bl_5_2
  · have hk : k < 3 := hk
    match k, hk with
    | 0, _ => exact bl_6_0
    | 1, _ => exact bl_6_1
    | 2, _ => exact bl_6_2
  · have hk : k < 3 := hk
    match k, hk with
    | 0, _ => exact bl_7_0
    | 1, _ => exact bl_7_1
    | 2, _ => exact bl_7_2
theorem tups_np : tups.all (fun ds => npAll ds && (decide (0 < ds.length) && decide (ds.length ≤ 3))) = true := by decide +kernel
theorem np_take : ∀ {l : List D} (k : Nat), npAll l = true → npAll (l.take k) = true
  | _, 0, _ => rfl
  | [], _ + 1, _ => rfl
  | d :: r, k + 1, h => by
    obtain ⟨a, b⟩ := Bool.and_eq_true_iff.mp (show (np d && npAll r) = true from h)
    show (np d && npAll (r.take k)) = true
    rw [a, np_take k b]
    rfl
theorem np_drop : ∀ {l : List D} (k : Nat), npAll l = true → npAll (l.drop k) = true
  | _, 0, h => h
  | [], _ + 1, _ => rfl
  | d :: r, k + 1, h => np_drop k (Bool.and_eq_true_iff.mp (show (np d && npAll r) = true from h)).2
theorem Sd_kind {d : D} (h : Sd d) : isT d = false ∨ ∃ ds ∈ tups, d = .tuple ds := by
  rcases h with ⟨n, _, _, rfl⟩ | h | h
  · exact .inl rfl
  · obtain ⟨z, rfl, _⟩ := finN_int h
    exact .inl rfl
  · simp only [finT, List.mem_cons, List.not_mem_nil, or_false] at h
    rcases h with rfl | rfl | rfl | rfl | rfl | rfl | rfl | rfl | rfl | rfl
    · exact .inl rfl
    · exact .inl rfl
    all_goals exact .inr ⟨_, by simp [tups], rfl⟩
theorem odd_at {i : Int} (h0 : 0 ≤ i) (h1 : i < 23) : ∃ z, ixD (.list oddL) (.int i) = some z ∧ np z = true ∧ z ∈ oddL := by
  have hl : i.toNat < oddL.length := by show i.toNat < 23; omega
  refine ⟨oddL[i.toNat], ?_, List.all_eq_true.mp odd_np _ (List.getElem_mem hl), List.getElem_mem hl⟩
  show (if 0 ≤ i then oddL[i.toNat]? else none) = _
  rw [if_pos h0, List.getElem?_eq_getElem hl]
theorem m_bent {d : D} (h : Sd d) : W__law_bent.run (none :: startD 3 [d]) fun o => fn__law_looks_right [o.val] = some (.bool true) := by
  have first : ∀ (P : D → Prop), (∀ z ∈ oddL, P z) → ∀ δ : En, (δ[2]?).join = some (.list oddL) → (wOp ixD (wPure fun δ => (δ[2]?).join) (wTake fun _ => some (.int 23))).run δ P := fun P hP δ e => by
    refine ⟨.list oddL, e, rfl, 23, rfl, by decide, by decide, fun i i0 i1 => ?_⟩
    obtain ⟨z, ez, nz, mz⟩ := odd_at i0 i1
    exact ⟨z, ez, nz, hP z mz⟩
  have lk : ∀ z ∈ oddL, fn__law_looks_right [z] = some (.bool true) := fun z hz => okB_some (List.all_eq_true.mp odd_looks z hz)
  intro nn
  refine ⟨_, rfl, rfl, fun nn => ⟨_, rfl, rfl, fun nn => ⟨.list oddL, rfl, rfl, ?_⟩⟩⟩
  rcases Sd_kind h with ht | ⟨ds, hm, rfl⟩
  · refine ⟨true, ?_, ?_⟩
    · show some (!isT d) = some true
      rw [ht]
      rfl
    · show (if true = true then _ else _ : Prop)
      rw [if_pos rfl]
      exact first _ (fun z hz => lk z hz) _ rfl
  · refine ⟨false, rfl, ?_⟩
    show (if false = true then _ else _ : Prop)
    rw [if_neg (by decide)]
    refine ⟨2, rfl, by decide, by decide, fun r r0 r1 => ⟨.int 0, rfl, rfl, r == 0, rfl, ?_⟩⟩
    obtain ⟨n1, n2⟩ := Bool.and_eq_true_iff.mp (List.all_eq_true.mp tups_np ds hm)
    obtain ⟨n2, n3⟩ := Bool.and_eq_true_iff.mp n2
    have n2 := of_decide_eq_true n2
    have n3 := of_decide_eq_true n3
    cases hr : r == 0 with
    | true =>
      show (if true = true then _ else _ : Prop)
      rw [if_pos rfl]
      exact first _ (fun z hz => lk z hz) _ rfl
    | false =>
      show (if false = true then _ else _ : Prop)
      rw [if_neg (by decide)]
      refine ⟨nn.set (by decide +kernel), fun _ => ⟨(ds.length : Int), rfl, by omega, by omega, fun k k0 k1 => ?_⟩⟩
      obtain ⟨j, rfl⟩ : ∃ j : Nat, k = (j : Int) := ⟨k.toNat, by omega⟩
      have hj : j < ds.length := by omega
      refine ⟨.tuple (ds.take j), rfl, np_take j n1, ?_⟩
      refine first _ (fun z hz => ?_) _ rfl
      have nz := List.all_eq_true.mp odd_np z hz
      have nz1 : npAll [z] = true := by show (np z && true) = true; rw [nz]; rfl
      have l1 : (ds.take j).length ≤ 3 := by rw [List.length_take]; omega
      have l2 : (ds.drop (j + 1)).length ≤ 3 := by rw [List.length_drop]; omega
      have a1 : addD (.tuple (ds.take j)) (.tuple [z]) = some (.tuple (ds.take j ++ [z])) := by
        show (if _ then _ else _) = _
        rw [if_pos (by show (ds.take j).length + 1 ≤ 1000; omega)]
      have m1 : npAll (ds.take j ++ [z]) = true := npAll_app (np_take j n1) nz1
      refine ⟨by show 1 ≤ 1000; decide, .tuple (ds.take j ++ [z]), a1, m1, .tuple (ds.drop (j + 1)), ?_, np_drop (j + 1) n1, ?_⟩
      · show (if (0 : Int) ≤ (j : Int) + 1 then some (PyData.tuple (ds.drop ((j : Int) + 1).toNat)) else none) = _
        rw [if_pos (by omega)]
        rfl
      · refine ⟨.tuple (ds.take j ++ [z] ++ ds.drop (j + 1)), ?_, npAll_app m1 (np_drop (j + 1) n1), ?_⟩
        · show (if _ then _ else _) = _
          rw [if_pos (by show (ds.take j ++ [z]).length + (ds.drop (j + 1)).length ≤ 1000; rw [List.length_append]; show (ds.take j).length + 1 + _ ≤ 1000; omega)]
        · exact okB_some (List.all_eq_true.mp (bent_looks ds hm j hj) z hz)
end Wm

namespace Wm
open PySem PySem.Spec PyProof.Rows L2
/-! ### the end of a law whose def shows things -/
/-- from the promise to the call, at a heap in which the script alone may be tracked -/
theorem end_core {P : Program} {w : World} {K : PySem.W.Frag} {mg mb : Str → Option Value} {k : Nat} {fa a : Addr} {fd : FuncData} {x : Str} {sp : Sp} {s : Shared} {vs : List Value} (KX : K.In s.heap) (gl : s.heap.Ns mainGlobals mg) (bl : s.heap.Ns builtinsNs mb)
    (bb : ∀ y : Str, y ≠ "__name__" → mb y = bootBuiltins y) (lim : s.heap.NoLimit) (gg : s.gens = #[]) (ha : s.heap.get? a = some { cls := .type "list", data := .seq vs.toArray }) (hr : Room k callerA)
    (F : ∀ base : Heap, K.In base → base.Ns mainGlobals mg → FnG P w K mg base k fa fd [x] sp) (bd : ∀ (s : Shared) (u : Value), BindsTo s fd ⟨[u], []⟩ [(x, u)])
    (H : Hp) (only : Only H) (want : sp [.ref a] H (fun v _ => v = .bl true) fun _ _ _ => False) (ok : HOk P w H s.heap) (alone : ∀ b, H b ≠ none → b = a) (apart : H a ≠ none → K.lookup a = none) :
    codeAny (model P w) callerA (.call (.ref fa) ⟨[.ref a], []⟩) (fun r s' => r = .ok (.ret (.bool true)) ∧ OldK s.heap s'.heap ∧ s'.os = s.os ∧ AllBare s'.gens) s := by
  have free : ∀ {b : Addr} {o : Obj} {es : Array DictEntry} {ep : Nat}, s.heap.get? b = some o → o.data = .dict es ep → H b = none := fun {b o es ep} e d => by
    cases q : H b with
    | none => rfl
    | some u =>
      have z : b = a := alone b (by rw [q]; intro t; cases t)
      rw [z, ha] at e
      cases e
      cases (show Data.seq vs.toArray _ = Data.dict es ep from d)
  have ns : ∀ {b : Addr} {m : Str → Option Value}, s.heap.Ns b m → (hidT s.heap H).Ns b m := fun {b m} h => by
    obtain ⟨o, es, ep, e, d, r⟩ := h
    exact ⟨o, es, ep, hidT_get e (free e d), d, r⟩
  have kb : K.In (hidT s.heap H) := fun b o e => by
    refine hidT_get (KX b o e) ?_
    cases q : H b with
    | none => rfl
    | some u =>
      have z : b = a := alone b (by rw [q]; intro t; cases t)
      rw [z] at e q
      rw [apart (by rw [q]; intro t; cases t)] at e
      cases e
  have md : Mod K mg (hidT s.heap H) := ⟨kb, ns gl, ⟨mb, ns bl, bb⟩, by
    obtain ⟨mc, h1, h2⟩ := lim
    exact ⟨mc, ns h1, h2⟩⟩
  have env : Env0 P w K mg (hidT s.heap H) callerA [] s H := ⟨rfl, md, fun b o e => of_hidT e, Nat.le_of_eq (hidT_size _ _), trivial, fun b hb => absurd (show b ∈ ([] : List Addr) from hb) (by simp), ok, .of_eq gg⟩
  refine codeAny_mono ((F _ kb (ns gl)).go callerA [] s H ⟨[.ref a], []⟩ [.ref a] [.ref a] _ _ hr rfl env (bd s (.ref a)) (.cons rfl .nil) want) fun r s' h => ?_
  match r, h with
  | .ok (.ret u), h =>
    obtain ⟨v, H', os, bare, un, ok', rv, q⟩ := h
    have q : v = .bl true := q
    subst q
    cases (show u = Value.bool true from rv)
    refine ⟨rfl, .of_keep fun b o e => ?_, os, bare⟩
    rcases only b with z | ⟨ob, xs, z⟩
    · exact un.keep b o e z (fun t => absurd (show b ∈ ([] : List Addr) from t) (by simp)) (by simp)
    · obtain ⟨e1, _⟩ := ok b _ z
      obtain ⟨e2, _⟩ := ok' b _ (un.frzs b ob _ z)
      rw [e] at e1
      cases e1
      exact e2
/-- the law's def at fa: how it binds, and its promise over every base -/
def LawAt (P : Program) (w : World) (K : PySem.W.Frag) (mg : Str → Option Value) (k : Nat) (fa : Addr) (x : Str) (sp : Sp) : Prop :=
  ∃ fd : FuncData, (∀ (s : Shared) (u : Value), BindsTo s fd ⟨[u], []⟩ [(x, u)]) ∧ ∀ base : Heap, K.In base → base.Ns mainGlobals mg → FnG P w K mg base k fa fd [x] sp
/-- what the promise is asked for: True, of every script -/
def Asked (K : PySem.W.Frag) (n : Nat) (sp : Sp) : Prop := ∀ (H : Hp) (a : Addr) (ns : List Int), ns.length ≤ n → Only H → SqL K H a (ns.map V.int) → sp [.ref a] H (fun v _ => v = .bl true) fun _ _ _ => False
theorem walk_G {l : PySem.W.OpenLaw} {n k : Nat} {q : Program} {loose : List Str} {XP : (Str → Option Value) → Heap → Prop} {YP : World → Heap → Prop} {d : DefRec} {KK : Params → PySem.W.Frag} {sp : World → Sp} {x : Str}
    (most : l.most = some n) (fits : n ≤ sizeLine) (plain : d.params.defaults = []) (room : Room k callerA) (written : ∀ (w : World) (h : Heap), YP w h → (KK w.params).In h)
    (at_ : ∀ (w : World) (mg : Str → Option Value) (fa : Addr) (h : Heap), (KK w.params).In h → h.Ns mainGlobals mg → mg d.name = some (.ref fa) → LawAt l.prog w (KK w.params) mg k fa x (sp w))
    (asked : ∀ w : World, Asked (KK w.params) n (sp w)) : PySem.W.WalkO q loose XP YP l.row.toRowW d [] (fun g us => PySem.call g us) := by
  refine Att.attach_call most plain fun w _ s₁ mg mb fa _ _ _ _ a vs ns G Y _ _ _ named hobj hints hlen hg => ?_
  have KX := written w _ Y
  obtain ⟨fd, hb, hF⟩ := at_ w mg fa _ KX G.T.g named
  have rv := vals_ints hints
  have lenV := hints.length
  have small : ns.length ≤ sizeLine := Nat.le_trans hlen fits
  have core := fun H => end_core (a := a) KX G.T.g G.T.b G.T.builtins G.T.nolimit hg hobj room hF hb H
  cases hk : (KK w.params).lookup a with
  | some ob =>
    have e := KX a ob hk
    rw [hobj] at e
    cases e
    have sq : SqL (KK w.params) (fun _ => none) a (ns.map V.int) := .inr ⟨_, vs.toArray, _, hk, rfl, rfl, rfl, by rw [List.size_toArray, lenV]; exact small, by simpa using rv⟩
    exact core (fun _ => none) (fun _ => .inl rfl) (asked w _ a ns hlen (fun _ => .inl rfl) sq) (fun b u z => by cases z) (fun b z => absurd rfl z) fun z => absurd rfl z
  | none =>
    have only : Only fun b => if b = a then some (.frz { cls := .type "list", data := .seq vs.toArray } (.lst (ns.map V.int))) else none := fun b => by
      by_cases z : b = a
      · exact .inr ⟨_, _, if_pos z⟩
      · exact .inl (if_neg z)
    refine core _ only (asked w _ a ns hlen only (.inl (.inr ⟨_, if_pos rfl⟩))) (fun b u z => ?_) (fun b z => ?_) fun _ => hk
    · by_cases t : b = a
      · subst t
        have z := (if_pos rfl).symm.trans z
        cases z
        exact ⟨hobj, by rw [List.length_map]; exact small, vs, _, rv, hobj⟩
      · have z := (if_neg t).symm.trans z
        cases z
    · by_cases t : b = a
      · exact t
      · exact absurd (if_neg t) z
/-! ### data without lists of a length; data without lists -/
mutual
def nl (n : Nat) : D → Bool
  | .list ds => decide (ds.length ≠ n) && nlAll n ds
  | .tuple ds => nlAll n ds
  | .none => true
  | .bool _ => true
  | .int _ => true
  | .str _ => true
  | .dict _ => true
def nlAll (n : Nat) : List D → Bool
  | [] => true
  | d :: r => nl n d && nlAll n r
end
section
variable {K : PySem.W.Frag} {H H' : Hp} {p : Addr} {l0 : List V}
mutual
theorem Dt.butL (hp : H p = some (.lst l0)) (e : But p H H') : ∀ (d : D) (v : V), nl l0.length d = true → Dt K H v d → Dt K H' v d
  | .none, _, _, h => by cases h; exact .non
  | .bool b, _, _, h => by cases h; exact .bl b
  | .int i, _, _, h => by cases h; exact .int i
  | .str x, _, _, h => by cases h; exact .str x
  | .list ds, _, n, h => by
    obtain ⟨n1, n2⟩ := Bool.and_eq_true_iff.mp (show (decide (ds.length ≠ l0.length) && nlAll l0.length ds) = true from n)
    have n1 := of_decide_eq_true n1
    cases h with
    | lst s a =>
      refine .lst (e _ _ (fun z => ?_) s) (DtAll.butL hp e ds _ n2 a)
      subst z
      rw [s] at hp
      have q' := HO.lst.inj (Option.some.inj hp)
      subst q'
      exact n1 a.len.symm
  | .tuple ds, _, n, h => by
    cases h with
    | tup s a =>
      refine .tup ?_ (DtAll.butL hp e ds _ n a)
      rcases s with (s | ⟨o, s⟩) | s
      · exact Or.inl (Or.inl (e _ _ (ne_of s hp (by intro z; cases z)) s))
      · exact Or.inl (Or.inr ⟨o, e _ _ (ne_of s hp (by intro z; cases z)) s⟩)
      · exact Or.inr s
  | .dict _, _, _, h => by
    cases h with
    | nod s => exact .nod (e _ _ (ne_of s hp (by intro z; cases z)) s)
theorem DtAll.butL (hp : H p = some (.lst l0)) (e : But p H H') : ∀ (ds : List D) (vs : List V), nlAll l0.length ds = true → DtAll K H vs ds → DtAll K H' vs ds
  | [], _, _, h => by cases h; exact .nil
  | d :: ds, _, n, h => by
    obtain ⟨n1, n2⟩ := Bool.and_eq_true_iff.mp (show (nl l0.length d && nlAll l0.length ds) = true from n)
    cases h with
    | cons a r => exact .cons (Dt.butL hp e d _ n1 a) (DtAll.butL hp e ds _ n2 r)
end
end
theorem Sd_nl {d : D} (h : Sd d) (n : Nat) : nl n d = true := by
  rcases h with ⟨m, _, _, rfl⟩ | h | h
  · rfl
  · obtain ⟨z, rfl, _⟩ := finN_int h
    rfl
  · simp only [finT, List.mem_cons, List.not_mem_nil, or_false] at h
    rcases h with rfl | rfl | rfl | rfl | rfl | rfl | rfl | rfl | rfl | rfl <;> rfl
theorem Sd_np {d : D} (h : Sd d) : np d = true := by
  rcases h with ⟨m, _, _, rfl⟩ | h | h
  · rfl
  · obtain ⟨z, rfl, _⟩ := finN_int h
    rfl
  · simp only [finT, List.mem_cons, List.not_mem_nil, or_false] at h
    rcases h with rfl | rfl | rfl | rfl | rfl | rfl | rfl | rfl | rfl | rfl <;> rfl
end Wm

namespace Wm
open PySem PySem.Spec PyProof.Rows L2
abbrev st_law : Stmt := topS 29
abbrev stm (i : Nat) : Stmt := (defBody st_law).getD i (.Pass ⟨0, 0, 0, 0⟩)
theorem sc_law : FnScope ["_law_script", "_law_odd", "_law_most", "_law_left", "_law_right", "_law_k", "_law_pool_here", "_law_some", "_law_odd_one", "_law_turn"] ["_law_script"] (defScope st_law) := ⟨rfl, rfl, rfl, by decide +kernel, rfl, by decide +kernel, by decide +kernel⟩
abbrev cL (P : Program) (w : World) (K : PySem.W.Frag) (mg : Str → Option Value) (base : Heap) := CalG P w K mg base "_law_looks_right" st__law_looks_right 5 ["_law_odd_one"] 1 fn__law_looks_right
abbrev cT (P : Program) (w : World) (K : PySem.W.Frag) (mg : Str → Option Value) (base : Heap) := CalG P w K mg base "_law_two_right" st__law_two_right 5 ["_law_left", "_law_right"] 2 fn__law_two_right
section
variable {P : Program} {w : World} {K : PySem.W.Frag} {mg : Str → Option Value} {base : Heap} {f : Addr} {cdv : Value} {A : Around} {outer : List Env} {s : Shared} {H : Hp} {E : XK}
def gS0 : En → Option Out := fun δ => ((fun δ => ((fun δ => ((fun _ => some (.int 1000000000)) δ).bind fun x => ((fun δ => ((fun _ => some (.int 10)) δ).bind fun x => ((fun _ => some (.int 9)) δ).bind fun y => (onI fun i j => if i = 10 ∧ 0 ≤ j ∧ j ≤ 1000 then some (.int (i ^ j.toNat)) else none) x y) δ).bind fun y => (neD x y).bind asB) δ).bind fun k => if k then some true else (fun δ => ((fun δ => ((fun δ => ((fun _ => some dWORDS) δ).bind fun x => ((fun _ => some []) δ).bind fun r => some (x :: r)) δ).bind shownD) δ).bind fun x => ((fun δ => ((fun δ => ((disp .tuple (fun δ => ((fun _ => some (.str "plus")) δ).bind fun x => ((fun δ => ((fun _ => some (.str "minus")) δ).bind fun x => ((fun δ => ((fun _ => some (.str "times")) δ).bind fun x => ((fun δ => ((fun _ => some (.str "below")) δ).bind fun x => ((fun δ => ((fun _ => some (.str "same")) δ).bind fun x => ((fun _ => some []) δ).bind fun r => some (x :: r)) δ).bind fun r => some (x :: r)) δ).bind fun r => some (x :: r)) δ).bind fun r => some (x :: r)) δ).bind fun r => some (x :: r))) δ).bind fun x => ((fun _ => some []) δ).bind fun r => some (x :: r)) δ).bind shownD) δ).bind fun y => (neD x y).bind asB) δ) δ).bind fun k => if k then (seqO (fun δ => ((fun _ => some (.bool false)) δ).bind fun d => some (.rt d)) (fun δ => some (.nx δ))) δ else (fun δ => some (.nx δ)) δ
theorem pS0 (T : Fx K mg) (C__law_looks_right : cL P w K mg base) (C__law_two_right : cT P w K mg base) (hr : Room 5 (A.deeper (envOfC "law" (defScope st_law) s.heap.objs.size f cdv))) (hG : A.guards = some []) : PS (cxOf CX0 P w K mg base ["_law_script", "_law_odd", "_law_most", "_law_left", "_law_right", "_law_k", "_law_pool_here", "_law_some", "_law_odd_one", "_law_turn"] "law" (defScope st_law) f cdv A outer s H E).nox (stm 0) (tS K gS0) := by
  have hu := hr.units
  exact s_if ((q_or (q_cmp (o_ne hu) ((Fx.c_MOST T (by rfl))) (p_op o_pow (p_c pe_int fun _ => .int _) (p_c pe_int fun _ => .int _)) (nobehind _ (by decide) (by decide))) (pw_or1 (q_cmp (o_ne hu) (p_callB (c_repr hG hu) (by rfl) T.z_repr (by decide +kernel) (l_cons ((Fx.c_WORDS T (by rfl))) (l_nil))) (p_callB (c_repr hG hu) (by rfl) T.z_repr (by decide +kernel) (l_cons (p_tup (l_cons (p_c pe_str fun _ => .str _) (l_cons (p_c pe_str fun _ => .str _) (l_cons (p_c pe_str fun _ => .str _) (l_cons (p_c pe_str fun _ => .str _) (l_cons (p_c pe_str fun _ => .str _) (l_nil))))))) (l_nil))) (nobehind _ (by decide) (by decide))))).pt) (s_cons (s_ret (p_c pe_bl fun _ => .bl _)) (s_nil)) (s_nil)
def gS1 : En → Option Out := fun δ => ((disp .list (fun δ => ((fun _ => some .none) δ).bind fun x => ((fun δ => ((fun _ => some (.str "")) δ).bind fun x => ((fun δ => ((fun _ => some (.str "a")) δ).bind fun x => ((fun δ => ((fun _ => some (.str "zzzzzz")) δ).bind fun x => ((fun δ => ((fun _ => some (.str "abcdefg")) δ).bind fun x => ((fun δ => ((fun _ => some (.str "A")) δ).bind fun x => ((fun δ => ((fun _ => some (.str "a1")) δ).bind fun x => ((fun δ => ((fun _ => some (.str "a b")) δ).bind fun x => ((fun δ => ((fun _ => some (.int 5)) δ).bind fun x => ((fun δ => ((fun _ => some (.bool true)) δ).bind fun x => ((fun δ => ((disp .list (fun δ => ((fun _ => some (.str "a")) δ).bind fun x => ((fun _ => some []) δ).bind fun r => some (x :: r))) δ).bind fun x => ((fun δ => ((fun _ => some (.dict [])) δ).bind fun x => ((fun δ => ((fun _ => some (.str "a\n")) δ).bind fun x => ((fun δ => ((disp .tuple (fun δ => ((fun _ => some (.str "a")) δ).bind fun x => ((fun _ => some []) δ).bind fun r => some (x :: r))) δ).bind fun x => ((fun δ => ((fun δ => ((fun δ => ((fun _ => some (.int 10)) δ).bind fun x => ((fun _ => some (.int 9)) δ).bind fun y => (onI fun i j => if i = 10 ∧ 0 ≤ j ∧ j ≤ 1000 then some (.int (i ^ j.toNat)) else none) x y) δ).bind fun x => ((fun _ => some (.int 1)) δ).bind fun y => addD x y) δ).bind fun x => ((fun _ => some []) δ).bind fun r => some (x :: r)) δ).bind fun r => some (x :: r)) δ).bind fun r => some (x :: r)) δ).bind fun r => some (x :: r)) δ).bind fun r => some (x :: r)) δ).bind fun r => some (x :: r)) δ).bind fun r => some (x :: r)) δ).bind fun r => some (x :: r)) δ).bind fun r => some (x :: r)) δ).bind fun r => some (x :: r)) δ).bind fun r => some (x :: r)) δ).bind fun r => some (x :: r)) δ).bind fun r => some (x :: r)) δ).bind fun r => some (x :: r)) δ).bind fun r => some (x :: r))) δ).bind fun d => some (.nx (δ.set 1 (some d)))
theorem pS1 (T : Fx K mg) (C__law_looks_right : cL P w K mg base) (C__law_two_right : cT P w K mg base) (hr : Room 5 (A.deeper (envOfC "law" (defScope st_law) s.heap.objs.size f cdv))) (hG : A.guards = some []) : PS (cxOf CX0 P w K mg base ["_law_script", "_law_odd", "_law_most", "_law_left", "_law_right", "_law_k", "_law_pool_here", "_law_some", "_law_odd_one", "_law_turn"] "law" (defScope st_law) f cdv A outer s H E).nox (stm 1) (tS K gS1) := by
  have hu := hr.units
  exact s_set (i := 1) sc_law.nd rfl (Or.inl rfl) (p_lst (l_cons (p_c pe_non fun _ => .non) (l_cons (p_c pe_str fun _ => .str _) (l_cons (p_c pe_str fun _ => .str _) (l_cons (p_c pe_str fun _ => .str _) (l_cons (p_c pe_str fun _ => .str _) (l_cons (p_c pe_str fun _ => .str _) (l_cons (p_c pe_str fun _ => .str _) (l_cons (p_c pe_str fun _ => .str _) (l_cons (p_c pe_int fun _ => .int _) (l_cons (p_c pe_bl fun _ => .bl _) (l_cons (p_lst (l_cons (p_c pe_str fun _ => .str _) (l_nil))) (l_cons (p_dict0 pe_dnewK) (l_cons (p_c pe_str fun _ => .str _) (l_cons (p_tup (l_cons (p_c pe_str fun _ => .str _) (l_nil))) (l_cons (p_op o_addA (p_op o_pow (p_c pe_int fun _ => .int _) (p_c pe_int fun _ => .int _)) (p_c pe_int fun _ => .int _)) (l_nil)))))))))))))))))
def gS2 : En → Option Out := fun δ => ((fun δ => ((fun δ => (δ[1]?).join) δ).bind fun x => ((disp .list (fun δ => ((disp .tuple (fun δ => ((fun _ => some (.str "place")) δ).bind fun x => ((fun δ => ((fun _ => some (.int 1)) δ).bind fun x => ((fun δ => ((fun _ => some (.str "A")) δ).bind fun x => ((fun _ => some []) δ).bind fun r => some (x :: r)) δ).bind fun r => some (x :: r)) δ).bind fun r => some (x :: r))) δ).bind fun x => ((fun δ => ((disp .tuple (fun δ => ((fun _ => some (.str "place")) δ).bind fun x => ((fun δ => ((fun _ => some (.int 1)) δ).bind fun x => ((fun δ => ((fun _ => some (.str "")) δ).bind fun x => ((fun _ => some []) δ).bind fun r => some (x :: r)) δ).bind fun r => some (x :: r)) δ).bind fun r => some (x :: r))) δ).bind fun x => ((fun δ => ((disp .tuple (fun δ => ((fun _ => some (.str "place")) δ).bind fun x => ((fun δ => ((fun _ => some (.bool true)) δ).bind fun x => ((fun δ => ((fun _ => some (.str "a")) δ).bind fun x => ((fun _ => some []) δ).bind fun r => some (x :: r)) δ).bind fun r => some (x :: r)) δ).bind fun r => some (x :: r))) δ).bind fun x => ((fun δ => ((disp .tuple (fun δ => ((fun _ => some (.str "lot")) δ).bind fun x => ((fun δ => ((fun _ => some (.bool true)) δ).bind fun x => ((fun _ => some []) δ).bind fun r => some (x :: r)) δ).bind fun r => some (x :: r))) δ).bind fun x => ((fun δ => ((disp .tuple (fun δ => ((fun _ => some (.str "lot")) δ).bind fun x => ((fun δ => ((fun δ => ((fun _ => some (.int 1)) δ).bind negD) δ).bind fun x => ((fun _ => some []) δ).bind fun r => some (x :: r)) δ).bind fun r => some (x :: r))) δ).bind fun x => ((fun _ => some []) δ).bind fun r => some (x :: r)) δ).bind fun r => some (x :: r)) δ).bind fun r => some (x :: r)) δ).bind fun r => some (x :: r)) δ).bind fun r => some (x :: r))) δ).bind fun y => addD x y) δ).bind fun d => some (.nx (δ.set 1 (some d)))
theorem pS2 (T : Fx K mg) (C__law_looks_right : cL P w K mg base) (C__law_two_right : cT P w K mg base) (hr : Room 5 (A.deeper (envOfC "law" (defScope st_law) s.heap.objs.size f cdv))) (hG : A.guards = some []) : PS (cxOf CX0 P w K mg base ["_law_script", "_law_odd", "_law_most", "_law_left", "_law_right", "_law_k", "_law_pool_here", "_law_some", "_law_odd_one", "_law_turn"] "law" (defScope st_law) f cdv A outer s H E).nox (stm 2) (tS K gS2) := by
  have hu := hr.units
  exact s_set (i := 1) sc_law.nd rfl (Or.inl rfl) (p_op o_addA (p_var (pv 1)) (p_lst (l_cons (p_tup (l_cons (p_c pe_str fun _ => .str _) (l_cons (p_c pe_int fun _ => .int _) (l_cons (p_c pe_str fun _ => .str _) (l_nil))))) (l_cons (p_tup (l_cons (p_c pe_str fun _ => .str _) (l_cons (p_c pe_int fun _ => .int _) (l_cons (p_c pe_str fun _ => .str _) (l_nil))))) (l_cons (p_tup (l_cons (p_c pe_str fun _ => .str _) (l_cons (p_c pe_bl fun _ => .bl _) (l_cons (p_c pe_str fun _ => .str _) (l_nil))))) (l_cons (p_tup (l_cons (p_c pe_str fun _ => .str _) (l_cons (p_c pe_bl fun _ => .bl _) (l_nil)))) (l_cons (p_tup (l_cons (p_c pe_str fun _ => .str _) (l_cons (p_un u_neg (p_c pe_int fun _ => .int _)) (l_nil)))) (l_nil))))))))
def gS4 : En → Option Out := fun δ => ((fun δ => ((fun δ => ((fun δ => (δ[1]?).join) δ).bind fun d => (lstEs 8 δ d).bind fun δs => (compO (fun δ => ((fun δ => ((fun δ => ((fun δ => ((fun δ => (δ[8]?).join) δ).bind fun x => ((fun _ => some []) δ).bind fun r => some (x :: r)) δ).bind fun r => if r.length = 1 then fn__law_looks_right r else none) δ).bind asB) δ).bind fun k => some !k) (fun δ => (δ[8]?).join) δs).bind fun ds => some (.list ds)) δ).bind fun x => ((disp .list (fun _ => some [])) δ).bind fun y => (neD x y).bind asB) δ).bind fun k => if k then (seqO (fun δ => ((fun _ => some (.bool false)) δ).bind fun d => some (.rt d)) (fun δ => some (.nx δ))) δ else (fun δ => some (.nx δ)) δ
theorem pS4 (T : Fx K mg) (C__law_looks_right : cL P w K mg base) (C__law_two_right : cT P w K mg base) (hr : Room 5 (A.deeper (envOfC "law" (defScope st_law) s.heap.objs.size f cdv))) (hG : A.guards = some []) : PS (cxOf CX0 P w K mg base ["_law_script", "_law_odd", "_law_most", "_law_left", "_law_right", "_law_k", "_law_pool_here", "_law_some", "_law_odd_one", "_law_turn"] "law" (defScope st_law) f cdv A outer s H E).nox (stm 4) (tS K gS4) := by
  have hu := hr.units
  exact s_if (q_cmp (o_ne hu) (p_lcL (i := 8) rfl sc_law.nd (p_var (pv 1)) (blkOk_by (own := [("_law_odd_one", 8)]) (N := ["_law_script", "_law_odd", "_law_most", "_law_left", "_law_right", "_law_k", "_law_pool_here", "_law_some", "_law_odd_one", "_law_turn"]) (sc := (defScope st_law)) (by decide +kernel)) (fun _ _ _ _ _ => pg_name (i := 8) sc_law.nd rfl (Or.inl rfl)) (fun _ _ _ _ _ => pts_one (q_not (q_val (c_callG C__law_looks_right hr (by decide) hG (by rfl) (l_cons (p_var (pv 8)) (l_nil)))))) (fun _ _ _ _ _ => p_var (pv 8))) (p_lst (l_nil)) (nobehind _ (by decide) (by decide))) (s_cons (s_ret (p_c pe_bl fun _ => .bl _)) (s_nil)) (s_nil)
def gS5 : En → Option Out := fun δ => ((fun δ => ((fun _ => some (.int 10)) δ).bind fun x => ((fun _ => some (.int 9)) δ).bind fun y => (onI fun i j => if i = 10 ∧ 0 ≤ j ∧ j ≤ 1000 then some (.int (i ^ j.toNat)) else none) x y) δ).bind fun d => some (.nx (δ.set 2 (some d)))
theorem pS5 (T : Fx K mg) (C__law_looks_right : cL P w K mg base) (C__law_two_right : cT P w K mg base) (hr : Room 5 (A.deeper (envOfC "law" (defScope st_law) s.heap.objs.size f cdv))) (hG : A.guards = some []) : PS (cxOf CX0 P w K mg base ["_law_script", "_law_odd", "_law_most", "_law_left", "_law_right", "_law_k", "_law_pool_here", "_law_some", "_law_odd_one", "_law_turn"] "law" (defScope st_law) f cdv A outer s H E).nox (stm 5) (tS K gS5) := by
  have hu := hr.units
  exact s_set (i := 2) sc_law.nd rfl (Or.inl rfl) (p_op o_pow (p_c pe_int fun _ => .int _) (p_c pe_int fun _ => .int _))
def gS6 : En → Option Out := fun δ => ((disp .list (fun δ => ((disp .tuple (fun δ => ((fun δ => (δ[2]?).join) δ).bind fun x => ((fun δ => ((fun _ => some (.int 1)) δ).bind fun x => ((fun _ => some []) δ).bind fun r => some (x :: r)) δ).bind fun r => some (x :: r))) δ).bind fun x => ((fun δ => ((disp .tuple (fun δ => ((fun δ => ((fun _ => some (.int 1)) δ).bind fun x => ((fun δ => (δ[2]?).join) δ).bind fun y => (onI fun i j => some (.int (i - j))) x y) δ).bind fun x => ((fun δ => ((fun _ => some (.int 2)) δ).bind fun x => ((fun _ => some []) δ).bind fun r => some (x :: r)) δ).bind fun r => some (x :: r))) δ).bind fun x => ((fun δ => ((disp .tuple (fun δ => ((fun _ => some (.int 31623)) δ).bind fun x => ((fun δ => ((fun _ => some (.int 31623)) δ).bind fun x => ((fun _ => some []) δ).bind fun r => some (x :: r)) δ).bind fun r => some (x :: r))) δ).bind fun x => ((fun δ => ((disp .tuple (fun δ => ((fun δ => (δ[2]?).join) δ).bind fun x => ((fun δ => ((fun δ => ((fun _ => some (.int 1)) δ).bind negD) δ).bind fun x => ((fun _ => some []) δ).bind fun r => some (x :: r)) δ).bind fun r => some (x :: r))) δ).bind fun x => ((fun δ => ((disp .tuple (fun δ => ((fun δ => ((fun δ => (δ[2]?).join) δ).bind negD) δ).bind fun x => ((fun δ => ((fun δ => ((fun δ => (δ[2]?).join) δ).bind negD) δ).bind fun x => ((fun _ => some []) δ).bind fun r => some (x :: r)) δ).bind fun r => some (x :: r))) δ).bind fun x => ((fun δ => ((disp .tuple (fun δ => ((fun _ => some (.bool true)) δ).bind fun x => ((fun δ => ((fun _ => some (.int 1)) δ).bind fun x => ((fun _ => some []) δ).bind fun r => some (x :: r)) δ).bind fun r => some (x :: r))) δ).bind fun x => ((fun δ => ((disp .tuple (fun δ => ((fun _ => some (.int 2)) δ).bind fun x => ((fun δ => ((fun _ => some (.bool false)) δ).bind fun x => ((fun _ => some []) δ).bind fun r => some (x :: r)) δ).bind fun r => some (x :: r))) δ).bind fun x => ((fun _ => some []) δ).bind fun r => some (x :: r)) δ).bind fun r => some (x :: r)) δ).bind fun r => some (x :: r)) δ).bind fun r => some (x :: r)) δ).bind fun r => some (x :: r)) δ).bind fun r => some (x :: r)) δ).bind fun r => some (x :: r))) δ).bind fun d => match d with | .list ds => loop2 3 4 (seqO (fun δ => ((fun δ => ((fun δ => ((fun δ => ((fun δ => ((fun δ => (δ[3]?).join) δ).bind fun x => ((fun δ => ((fun δ => (δ[4]?).join) δ).bind fun x => ((fun _ => some []) δ).bind fun r => some (x :: r)) δ).bind fun r => some (x :: r)) δ).bind fun r => if r.length = 2 then fn__law_two_right r else none) δ).bind asB) δ).bind fun k => some !k) δ).bind fun k => if k then (seqO (fun δ => ((fun _ => some (.bool false)) δ).bind fun d => some (.rt d)) (fun δ => some (.nx δ))) δ else (fun δ => some (.nx δ)) δ) (fun δ => some (.nx δ))) ds δ | _ => none
theorem pS6 (T : Fx K mg) (C__law_looks_right : cL P w K mg base) (C__law_two_right : cT P w K mg base) (hr : Room 5 (A.deeper (envOfC "law" (defScope st_law) s.heap.objs.size f cdv))) (hG : A.guards = some []) : PS (cxOf CX0 P w K mg base ["_law_script", "_law_odd", "_law_most", "_law_left", "_law_right", "_law_k", "_law_pool_here", "_law_some", "_law_odd_one", "_law_turn"] "law" (defScope st_law) f cdv A outer s H E).nox (stm 6) (tS K gS6) := by
  have hu := hr.units
  exact s_for2 (i := 3) (j := 4) PassesOwn.never rfl (p_lst (l_cons (p_tup (l_cons (p_var (pv 2)) (l_cons (p_c pe_int fun _ => .int _) (l_nil)))) (l_cons (p_tup (l_cons (p_op o_sub (p_c pe_int fun _ => .int _) (p_var (pv 2))) (l_cons (p_c pe_int fun _ => .int _) (l_nil)))) (l_cons (p_tup (l_cons (p_c pe_int fun _ => .int _) (l_cons (p_c pe_int fun _ => .int _) (l_nil)))) (l_cons (p_tup (l_cons (p_var (pv 2)) (l_cons (p_un u_neg (p_c pe_int fun _ => .int _)) (l_nil)))) (l_cons (p_tup (l_cons (p_un u_neg (p_var (pv 2))) (l_cons (p_un u_neg (p_var (pv 2))) (l_nil)))) (l_cons (p_tup (l_cons (p_c pe_bl fun _ => .bl _) (l_cons (p_c pe_int fun _ => .int _) (l_nil)))) (l_cons (p_tup (l_cons (p_c pe_int fun _ => .int _) (l_cons (p_c pe_bl fun _ => .bl _) (l_nil)))) (l_nil))))))))) (pg_tup rfl (pgs_cons (pg_name (i := 3) sc_law.nd rfl (Or.inr rfl)) (pgs_cons (pg_name (i := 4) sc_law.nd rfl (Or.inl rfl)) pgs_nil))) (s_cons (s_if (q_not (q_val (c_callG C__law_two_right hr (by decide) hG (by rfl) (l_cons (p_var (pv 3)) (l_cons (p_var (pv 4)) (l_nil)))))) (s_cons (s_ret (p_c pe_bl fun _ => .bl _)) (s_nil)) (s_nil)) (s_nil))
def gQ : En → Option Bool := fun δ => ((fun δ => ((fun δ => (δ[7]?).join) δ).bind fun d => (lstEs 4 δ d).bind fun δs => (compO (fun δ => ((fun δ => ((fun δ => ((fun δ => ((fun δ => (δ[3]?).join) δ).bind fun x => ((fun δ => ((fun δ => (δ[4]?).join) δ).bind fun x => ((fun _ => some []) δ).bind fun r => some (x :: r)) δ).bind fun r => some (x :: r)) δ).bind fun r => if r.length = 2 then fn__law_two_right r else none) δ).bind asB) δ).bind fun k => some !k) (fun δ => (δ[4]?).join) δs).bind fun ds => some (.list ds)) δ).bind fun x => ((disp .list (fun _ => some [])) δ).bind fun y => (neD x y).bind asB
end
def δ0 : En := List.replicate 10 none
def odd15 : List D := [.none, .str "", .str "a", .str "zzzzzz", .str "abcdefg", .str "A", .str "a1", .str "a b", .int 5, .bool true, .list [.str "a"], .dict [], .str "a\n", .tuple [.str "a"], .int 1000000001]
def odd20 : List D := odd15 ++ [.tuple [.str "place", .int 1, .str "A"], .tuple [.str "place", .int 1, .str ""], .tuple [.str "place", .bool true, .str "a"], .tuple [.str "lot", .bool true], .tuple [.str "lot", .int (-1)]]
def odd21 : List D := odd20 ++ [.tuple [.str "place", .int 1, .str "b"]]
def δ1 : En := δ0.set 1 (some (.list odd15))
def δ2 : En := δ0.set 1 (some (.list odd20))
def δ3 : En := δ0.set 1 (some (.list odd21))
def δ5 : En := δ3.set 2 (some (.int 1000000000))
def δ6 : En := (δ5.set 3 (some (.int 2))).set 4 (some (.bool false))
theorem e0 : gS0 δ0 = some (.nx δ0) := by kernel_rfl
theorem e1 : gS1 δ0 = some (.nx δ1) := by kernel_rfl
theorem e2 : gS2 δ1 = some (.nx δ2) := by kernel_rfl
theorem e4 : gS4 δ3 = some (.nx δ3) := by kernel_rfl
theorem e5 : gS5 δ3 = some (.nx δ5) := by kernel_rfl
theorem e6 : gS6 δ5 = some (.nx δ6) := by kernel_rfl
theorem comp_none {gt : En → Option Bool} {ge : En → Option D} : ∀ {δs : List En}, (∀ δ ∈ δs, gt δ = some false) → compO gt ge δs = some []
  | [], _ => rfl
  | δ :: r, h => by
    show ((gt δ).bind fun k => if k then _ else compO gt ge r) = _
    rw [h δ (List.mem_cons_self ..)]
    exact comp_none fun x hx => h x (List.mem_cons_of_mem _ hx)
def δ7 (d : D) (ds : List D) : En := (δ0.set 3 (some d)).set 7 (some (.list ds))
theorem eQ {d : D} {ds : List D} (hl : ds.length ≤ 1000) (h : ∀ r ∈ ds, fn__law_two_right [d, r] = some (.bool true)) : gQ (δ7 d ds) = some false := by
  have c : ∀ (gt : En → Option Bool) (ge : En → Option D), (∀ r ∈ ds, gt ((wipeD (δ7 d ds) [4]).set 4 (some r)) = some false) → ((lstEs 4 (δ7 d ds) (PyData.list ds)).bind fun δs => (compO gt ge δs).bind fun ds => some (PyData.list ds)) = some (PyData.list []) := fun gt ge hh => by
    have e : lstEs 4 (δ7 d ds) (.list ds) = some (ds.map fun d' => (wipeD (δ7 d ds) [4]).set 4 (some d')) := by
      show (if ds.length ≤ 1000 then _ else none) = _
      rw [if_pos hl]
    rw [e]
    show ((compO gt ge _).bind _) = _
    rw [comp_none fun δ hδ => by
      obtain ⟨r, hr, rfl⟩ := List.mem_map.mp hδ
      exact hh r hr]
    rfl
  have e7 : ((δ7 d ds)[7]?).join = some (PyData.list ds) := rfl
  have e3 : ∀ r, (((wipeD (δ7 d ds) [4]).set 4 (some r))[3]?).join = some d := fun r => rfl
  have e4 : ∀ r, (((wipeD (δ7 d ds) [4]).set 4 (some r))[4]?).join = some r := fun r => rfl
  unfold gQ
  simp only [e7, Option.bind_some]
  rw [c]
  · rfl
  · intro r hr
    simp only [e3, e4, Option.bind_some, List.length_cons, List.length_nil, h r hr, asB, if_true]
    rfl
end Wm

namespace Wm
open PySem PySem.Spec PyProof.Rows L2
def spLaw (K : PySem.W.Frag) : Sp := fun vs H Q _ => ∃ (a : Addr) (ns : List Int), vs = [.ref a] ∧ SqL K H a (ns.map V.int) ∧ ns.length ≤ 63 ∧ ∀ H', Q (.bl true) H'
/-- a called def: its promise, where it stands -/
structure Kn (P : Program) (w : World) (K : PySem.W.Frag) (mg : Str → Option Value) (base : Heap) (x : Str) (k : Nat) (ps : List Str) (sp : Sp) : Prop where
  ex : ∃ f fd, FnOk P w K mg base CX0 k f fd ps sp ∧ mg x = some (.ref f) ∧ PySem.W.keepIn K (.ref f) = true ∧ Binds K fd ps []
theorem er0 {K : PySem.W.Frag} {H : Hp} {σ : L2.St} (h : σ.length = 10) : Er K H σ δ0 := ⟨h, fun i d e => by
  have e : (List.replicate 10 (none : Option D))[i]? = some (some d) := e
  rw [List.getElem?_replicate] at e
  split at e <;> cases e⟩
theorem er_one {K : PySem.W.Frag} {H : Hp} {σ : L2.St} {δ : En} {i : Nat} {v : V} {d : D} (h : Er K H σ δ) (e : σ[i]? = some (some v)) (q : Dt K H v d) : Er K H σ (δ.set i (some d)) := by
  have q2 := h.set i q
  have : σ.set i (some v) = σ := by
    apply List.ext_getElem?
    intro j
    by_cases hj : j = i
    · subst hj
      rw [e, List.getElem?_set_self (List.getElem?_eq_some_iff.mp e).1]
    · rw [List.getElem?_set_ne (Ne.symm hj)]
  rw [this] at q2
  exact q2
theorem DtAll.list {K : PySem.W.Frag} {H : Hp} {v : V} {ds : List D} (h : Dt K H v (.list ds)) : ∃ a vs, v = .ref a ∧ H a = some (.lst vs) ∧ DtAll K H vs ds := by
  cases h with
  | lst s a => exact ⟨_, _, rfl, s, a⟩
theorem nl_all {ds : List D} (n : Nat) (h : ∀ d ∈ ds, Sd d) : nlAll n ds = true := by
  induction ds with
  | nil => rfl
  | cons d r ih =>
    show (nl n d && nlAll n r) = true
    rw [Sd_nl (h d (List.mem_cons_self ..)) n, ih fun x hx => h x (List.mem_cons_of_mem _ hx)]
    rfl
theorem np_all {ds : List D} (h : ∀ d ∈ ds, Sd d) : npAll ds = true := by
  induction ds with
  | nil => rfl
  | cons d r ih =>
    show (np d && npAll r) = true
    rw [Sd_np (h d (List.mem_cons_self ..)), ih fun x hx => h x (List.mem_cons_of_mem _ hx)]
    rfl
def tail3 : List D := [.int 1, .bool true, .tuple [.str "lot", .int 0]]
theorem tail_sd : ∀ d ∈ tail3, Sd d := by
  intro d hd
  simp only [tail3, List.mem_cons, List.not_mem_nil, or_false] at hd
  rcases hd with rfl | rfl | rfl
  · exact sInt (by omega) (by omega)
  · exact .inr (.inr (by simp [finT]))
  · exact .inr (.inr (lot_in (r := 0) (by omega) (by omega)))
theorem yes_of {σ : L2.St} {H : Hp} {A B : Hp → Prop} (h : if true = true then A H else B H) : tYes σ H fun b H3 => if b = true then A H3 else B H3 := h
def jL (L : Int) : Int := if (if L < 20 then L else 20) > 1 then (if L < 20 then L else 20) else 1
theorem jL_in {L : Int} (h0 : 0 ≤ L) : 1 ≤ jL L ∧ jL L ≤ 20 := by
  unfold jL
  by_cases h : L < 20
  · rw [if_pos h]
    by_cases g : L > 1
    · rw [if_pos g]; omega
    · rw [if_neg g]; omega
  · rw [if_neg h, if_pos (by decide)]
    omega
section
variable {P : Program} {w : World} {K : PySem.W.Frag} {mg : Str → Option Value} {base : Heap}
theorem ok_law (T : Fx K mg) (CL : cL P w K mg base) (CT : cT P w K mg base) (K1 : Kn P w K mg base "_law_pool" 1 ["_law_script", "_law_k"] (spPool K)) (K2 : Kn P w K mg base "_law_drawn" 2 ["_law_pool_here"] (spW K 2 1 W__law_drawn))
    (K3 : Kn P w K mg base "_law_bent" 2 ["_law_pool_here", "_law_worth_now"] (spW K 4 2 W__law_bent)) {f : Addr} {fd : FuncData} (F : Fun K "law" "law" st_law f fd) : FnG P w K mg base 6 f fd ["_law_script"] (spLaw K) := by
  refine okG F sc_law (fun vs H Q E h => ?_) (fun cdv A outer s H vs Q E hr hG h => ?_)
  · obtain ⟨a, ns, rfl, _⟩ := h
    rfl
  obtain ⟨a, ns, rfl, hS, hl, q⟩ := h
  have hu := hr.units
  obtain ⟨f1, fd1, F1, g1, k1, b1⟩ := K1.ex
  obtain ⟨f2, fd2, F2, g2, k2, b2⟩ := K2.ex
  obtain ⟨f3, fd3, F3, g3, k3, b3⟩ := K3.ex
  obtain ⟨f4, fd4, U4, F4, g4, b4⟩ := CL.ex
  have C__law_two_right := CT
  refine ⟨_, pss_cons (pS0 T CL CT hr hG) (pss_cons (pS1 T CL CT hr hG) (pss_cons (pS2 T CL CT hr hG)
    (pss_cons (ps_expr (pe_bm PySem.F.plainAttrs_list PySem.F.slot_list_append PySem.F.type_list_append mt_append (pv 1) (pa_cons (p_tup (l_cons (p_c pe_str fun _ => .str _) (l_cons (p_c pe_int fun _ => .int _) (l_cons (p_c pe_str fun _ => .str _) (l_nil))))) pa_nil)))
    (pss_cons (pS4 T CL CT hr hG) (pss_cons (pS5 T CL CT hr hG) (pss_cons (pS6 T CL CT hr hG)
    (pss_cons (ps_for PassesOwn.never rfl (pi_range1 (by rfl) T.z_range (pa_cons (pe_callB (call_max2 rfl) (by rfl) T.z_max (by decide +kernel) (pa_cons pe_int (pa_cons (pe_callB (call_min2 rfl) (by rfl) T.z_min (by decide +kernel) (pa_cons pe_int (pa_cons (pe_callB call_len_seq (by rfl) T.z_len PySem.boot_len (pa_cons (pv 0) pa_nil)) pa_nil))) pa_nil))) pa_nil)) (pg_name (i := 5) sc_law.nd rfl (Or.inl rfl)) (pss_cons (ps_set (i := 6) sc_law.nd rfl (Or.inr rfl) (pe_call F1 (hr.mono (by decide)) (by rfl) g1 k1 b1 .nil pass0 (pa_cons (pv 0) (pa_cons (pv 5) pa_nil)))) (pss_cons (ps_set (i := 7) sc_law.nd rfl (Or.inl rfl) (pe_op op_cat (pe_lc (own := [("_law_turn", 9)]) (g := gName 9) (tt := tYes) rfl sc_law.nd (pi_range1 (by rfl) T.z_range (pa_cons pe_int pa_nil)) (blkOk_by (own := [("_law_turn", 9)]) (N := ["_law_script", "_law_odd", "_law_most", "_law_left", "_law_right", "_law_k", "_law_pool_here", "_law_some", "_law_odd_one", "_law_turn"]) (sc := (defScope st_law)) (by decide +kernel)) (fun _ _ _ _ _ => pg_name (i := 9) sc_law.nd rfl (Or.inl rfl)) (fun _ _ _ _ _ => pts_nil) (fun _ _ _ _ _ => pe_call F2 (hr.mono (by decide)) (by rfl) g2 k2 b2 .nil pass0 (pa_cons (pv 6) pa_nil))) (p_lst (l_cons (p_c pe_int fun _ => .int _) (l_cons (p_c pe_bl fun _ => .bl _) (l_cons (p_tup (l_cons (p_c pe_str fun _ => .str _) (l_cons (p_c pe_int fun _ => .int _) (l_nil)))) (l_nil))))))) (pss_one (ps_for PassesOwn.never rfl (pi_list (pv 7)) (pg_name (i := 3) sc_law.nd rfl (Or.inr rfl)) (pss_cons (ps_if ((pw_or (pt_not (pt_val (c_callG CL hr (by decide) hG (by rfl) (l_cons (p_var (pv 3)) l_nil)))) (pw_or1 (pt_not (pt_val (pe_G F4 (hr.mono (by decide)) hG (by rfl) g4 U4.kp b4 (pa_cons (pe_call F3 (hr.mono (by decide)) (by rfl) g3 k3 b3 .nil pass0 (pa_cons (pv 6) (pa_cons (pv 3) pa_nil))) pa_nil)))))).pt) (pss_one (ps_ret pe_bl)) pss_nil) (pss_one (ps_if (q_cmp (o_ne hu) (p_lcL (i := 4) rfl sc_law.nd (p_var (pv 7)) (blkOk_by (own := [("_law_right", 4)]) (N := ["_law_script", "_law_odd", "_law_most", "_law_left", "_law_right", "_law_k", "_law_pool_here", "_law_some", "_law_odd_one", "_law_turn"]) (sc := (defScope st_law)) (by decide +kernel)) (fun _ _ _ _ _ => pg_name (i := 4) sc_law.nd rfl (Or.inl rfl)) (fun _ _ _ _ _ => pts_one (q_not (q_val (c_callG C__law_two_right hr (by decide) hG (by rfl) (l_cons (p_var (pv 3)) (l_cons (p_var (pv 4)) (l_nil))))))) (fun _ _ _ _ _ => p_var (pv 4))) (p_lst (l_nil)) (nobehind _ (by decide) (by decide))) (pss_one (ps_ret pe_bl)) pss_nil))))))))
    (pss_one (ps_ret pe_bl))))))))), ?_⟩
  -- the first three statements
  have l0 : (L2.start ["_law_script", "_law_odd", "_law_most", "_law_left", "_law_right", "_law_k", "_law_pool_here", "_law_some", "_law_odd_one", "_law_turn"] [V.ref a]).length = 10 := rfl
  refine ⟨δ0, .nx δ0, er0 l0, e0, fun σ1 H1 s1 r1 z1 => ?_⟩
  refine ⟨δ0, .nx δ1, r1, e1, fun σ2 H2 s2 r2 z2 => ?_⟩
  refine ⟨δ1, .nx δ2, r2, e2, fun σ3 H3 s3 r3 z3 => ?_⟩
  have zz : σ3[0]? = some (some (.ref a)) := z3.trans (z2.trans z1)
  -- odd.append(..)
  obtain ⟨vo, eo, dq⟩ := r3.2 1 (.list odd20) rfl
  obtain ⟨l, vs, rfl, hL, all⟩ := DtAll.list dq
  have l3 : σ3.length = 10 := r3.1
  refine ⟨.ref l, eo, .inl ⟨rfl, _, SqL.of hL⟩, δ0, .tuple [.str "place", .int 1, .str "b"], er0 l3, rfl, fun vy H4 s4 dy => ?_⟩
  have hL4 : H4 l = some (.lst vs) := s4 _ _ hL
  have lv : vs.length = 20 := all.len
  refine ⟨l, vs, vy, rfl, rfl, hL4, by rw [lv]; decide, ?_⟩
  have b5 : But l H4 (upd H4 l (.lst (vs ++ [vy]))) := but_upd
  have dall : DtAll K (upd H4 l (.lst (vs ++ [vy]))) (vs ++ [vy]) odd21 := by
    refine DtAll.app (DtAll.butL hL4 b5 _ _ ?_ (all.on s4)) (.cons (Dt.butL hL4 b5 _ _ ?_ dy) .nil)
    · rw [lv]; decide +kernel
    · rw [lv]; rfl
  have r5 : Er K (upd H4 l (.lst (vs ++ [vy]))) σ3 δ3 := er_one (er0 l3) eo (.lst upd_same dall)
  -- the script stays
  have hS3 : SqL K H3 a (ns.map V.int) := (s1.trans (s2.trans s3)).seq hS
  have hS5 : SqL K (upd H4 l (.lst (vs ++ [vy]))) a (ns.map V.int) := by
    have hS4 : SqL K H4 a (ns.map V.int) := s4.seq hS3
    rcases hS4 with (h | ⟨ob, h⟩) | h
    · refine .inl (.inl (b5 _ _ (fun z => ?_) h))
      subst z
      rw [hL4] at h
      have h := HO.lst.inj (Option.some.inj h)
      rw [h] at all
      cases ns with
      | nil => cases all
      | cons n r => cases all with
        | cons x y => cases x
    · exact .inl (.inr ⟨ob, b5 _ _ (ne_of h hL4 (by intro z; cases z)) h⟩)
    · exact .inr h
  generalize upd H4 l (.lst (vs ++ [vy])) = H5 at r5 hS5 ⊢
  refine ⟨δ3, .nx δ3, r5, e4, fun σ6 H6 s6 r6 z6 => ?_⟩
  refine ⟨δ3, .nx δ5, r6, e5, fun σ7 H7 s7 r7 z7 => ?_⟩
  refine ⟨δ5, .nx δ6, r7, e6, fun σ8 H8 s8 r8 z8 => ?_⟩
  have zz8 : σ8[0]? = some (some (.ref a)) := z8.trans (z7.trans (z6.trans zz))
  have hS8 : SqL K H8 a (ns.map V.int) := (s6.trans (s7.trans s8)).seq hS5
  have l8 : σ8.length = 10 := r8.1
  -- for k in range(..)
  obtain ⟨j1, j2⟩ := jL_in (L := ((ns.map V.int).length : Int)) (by omega)
  refine ⟨.ref a, zz8, a, ns.map V.int, rfl, .inl hS8, 20, _, rfl, 1, _, rfl, jL ((ns.map V.int).length : Int), rfl, by omega, by omega,
    for_range (lo := 0) (fun i σ H => Same H8 H ∧ σ.length = 10 ∧ σ[0]? = some (some (.ref a))) ⟨Same.refl _, l8, zz8⟩ (fun i σ H9 hi pv => ?_) (fun σ H9 pv => ?_)⟩
  case refine_2 => exact q _
  obtain ⟨t9, l9, z9⟩ := pv
  have hi20 : i < 20 := by omega
  -- the pool
  refine ⟨.ref a, by rw [List.getElem?_set_ne (by decide)]; exact z9, .int (0 + (i : Int)), List.getElem?_set_self (by rw [l9]; decide), a, ns, i, by simp, t9.seq hS8, by omega, by omega, fun p H10 s10 pl np10 => ?_⟩
  have lA : ((σ.set 5 (some (.int (0 + (i : Int))))).set 6 (some (V.ref p))).length = 10 := by simp [l9]
  have zA : ((σ.set 5 (some (.int (0 + (i : Int))))).set 6 (some (V.ref p)))[0]? = some (some (.ref a)) := by rw [List.getElem?_set_ne (by decide), List.getElem?_set_ne (by decide)]; exact z9
  have pA : ((σ.set 5 (some (.int (0 + (i : Int))))).set 6 (some (V.ref p)))[6]? = some (some (.ref p)) := List.getElem?_set_self (by simp [l9])
  -- the drawn ones
  refine ⟨3, rfl, by decide, by decide, fun L1 hL1 => ?_⟩
  have pL1 : p ≠ L1 := by
    obtain ⟨x, y, e, _⟩ := pl
    exact ne_of_none e hL1
  refine lc_range (lo := 0) (n := 3) (fun j H => Sm p H10 H ∧ ∃ acc ds, H L1 = some (.lst acc) ∧ DtAll K H acc ds ∧ (∀ d ∈ ds, Sd d) ∧ acc.length = j) ⟨Sm.of pl (same_new hL1), [], [], upd_same, .nil, fun d hd => (nomatch hd), rfl⟩ (fun j H11 hj pv => ?_) (fun H13 pv => ?_)
  · obtain ⟨sm, acc, ds, hA, all, hsd, la⟩ := pv
    refine ⟨wipe1, ?_⟩
    refine yes_of (iteT ?_)
    refine ⟨.ref p, ?_, p, [], [], rfl, rfl, .nil, rfl, sm.pool, W__law_drawn.up m_drawn fun o _ sd v H12 s12 dv => ?_⟩
    · show ((((σ.set 5 (some (.int (0 + (i : Int))))).set 6 (some (V.ref p))).set 9 none).set 9 _)[6]? = _
      rw [List.getElem?_set_ne (by decide), List.getElem?_set_ne (by decide)]
      exact pA
    · have hA12 : H12 L1 = some (.lst acc) := s12.but _ _ pL1.symm hA
      refine ⟨acc, hA12, small1000 (by omega), ⟨fun c ob nc ec => ?_, ?_⟩, acc ++ [v], ds ++ [o.val], upd_same, ?_, fun d hd => ?_, by simp [la]⟩
      · rw [upd_ne (ne_of_none ec hL1)]
        exact s12.but c ob nc (sm.but c ob nc ec)
      · obtain ⟨x, y, e, r⟩ := s12.pool
        exact ⟨x, y, by rw [upd_ne pL1]; exact e, r⟩
      · exact (DtAll.butL hA12 but_upd _ _ (nl_all _ hsd) (DtAll.but sm.pool s12.but _ _ (np_all hsd) all)).app (.cons (Dt.butL hA12 but_upd _ _ (Sd_nl sd _) dv) .nil)
      · rcases List.mem_append.mp hd with h | h
        · exact hsd d h
        · have e : d = o.val := by simpa using h
          rw [e]
          exact sd
  obtain ⟨sm, acc, ds, hA, all, hsd, la⟩ := pv
  refine ⟨δ0, .list tail3, er0 lA, rfl, fun vt H14 s14 dt => ?_⟩
  obtain ⟨t, vs3, rfl, ht, all3⟩ := DtAll.list dt
  have l33 : vs3.length = 3 := all3.len
  refine ⟨L1, t, acc, vs3, rfl, rfl, s14 _ _ hA, ht, by rw [la, l33]; decide, fun L hL => ?_⟩
  have sm14 : Sm p H10 H14 := sm.trans (Sm.of sm.pool s14)
  have sm15 : Sm p H10 (upd H14 L (.lst (acc ++ vs3))) := sm14.trans (pool_new sm14.pool hL)
  have hL15 : upd H14 L (.lst (acc ++ vs3)) L = some (.lst (acc ++ vs3)) := upd_same
  have all15 : DtAll K (upd H14 L (.lst (acc ++ vs3))) (acc ++ vs3) (ds ++ tail3) := ((all.on s14).app all3).on (same_new hL)
  have hLp : L ≠ p := by
    obtain ⟨x, y, e, _⟩ := sm14.pool
    exact (ne_of_none e hL).symm
  generalize upd H14 L (.lst (acc ++ vs3)) = H15 at sm15 hL15 all15 ⊢
  have sdA : ∀ d ∈ ds ++ tail3, Sd d := fun d hd => by
    rcases List.mem_append.mp hd with h | h
    · exact hsd d h
    · exact tail_sd d h
  have len6 : (ds ++ tail3).length ≤ 1000 := by
    have := all.len
    rw [List.length_append]
    show ds.length + 3 ≤ 1000
    omega
  have lB : (((σ.set 5 (some (.int (0 + (i : Int))))).set 6 (some (V.ref p))).set 7 (some (V.ref L))).length = 10 := by rw [List.length_set]; exact lA
  have zB : (((σ.set 5 (some (.int (0 + (i : Int))))).set 6 (some (V.ref p))).set 7 (some (V.ref L)))[0]? = some (some (.ref a)) := by rw [List.getElem?_set_ne (by decide)]; exact zA
  have pB : (((σ.set 5 (some (.int (0 + (i : Int))))).set 6 (some (V.ref p))).set 7 (some (V.ref L)))[6]? = some (some (.ref p)) := by rw [List.getElem?_set_ne (by decide)]; exact pA
  have qB : (((σ.set 5 (some (.int (0 + (i : Int))))).set 6 (some (V.ref p))).set 7 (some (V.ref L)))[7]? = some (some (.ref L)) := List.getElem?_set_self (by rw [lA]; decide)
  refine ⟨.ref L, qB, L, rfl, ⟨_, SqL.of hL15⟩, for_list (K := K) (a := L) (xs := acc ++ vs3) (fun j σ H => Sm p H15 H ∧ σ.length = 10 ∧ σ[0]? = some (some (.ref a)) ∧ σ[6]? = some (some (.ref p)) ∧ σ[7]? = some (some (.ref L)))
    ⟨Sm.of sm15.pool (Same.refl _), lB, zB, pB, qB⟩ (fun j σ H _ pv => SqL.of (pv.1.but _ _ hLp hL15)) (fun j x σ H16 ex pv => ?_) (fun σ H21 pv => ?_)⟩
  · obtain ⟨sm16, l16, z16, p16, q16⟩ := pv
    have hjl : j < (ds ++ tail3).length := by
      rw [← all15.len]
      exact (List.getElem?_eq_some_iff.mp ex).1
    obtain ⟨x', ex', dx'⟩ := all15.at (List.getElem?_eq_getElem hjl)
    have exx : x' = x := Option.some.inj (ex'.symm.trans ex)
    subst exx
    have sd : Sd (ds ++ tail3)[j] := sdA _ (List.getElem_mem hjl)
    generalize (ds ++ tail3)[j] = d at dx' sd
    have dx16 : Dt K H16 x' d := Dt.but sm15.pool sm16.but d x' (Sd_np sd) dx'
    have er3 : Er K H16 (σ.set 3 (some x')) (δ0.set 3 (some d)) := (er0 l16).set 3 dx16
    have s3 : (σ.set 3 (some x'))[3]? = some (some x') := List.getElem?_set_self (by rw [l16]; decide)
    have s6' : (σ.set 3 (some x'))[6]? = some (some (.ref p)) := by rw [List.getElem?_set_ne (by decide)]; exact p16
    have s7' : (σ.set 3 (some x'))[7]? = some (some (.ref L)) := by rw [List.getElem?_set_ne (by decide)]; exact q16
    have s0' : (σ.set 3 (some x'))[0]? = some (some (.ref a)) := by rw [List.getElem?_set_ne (by decide)]; exact z16
    have lC : (σ.set 3 (some x')).length = 10 := by simp [l16]
    refine ⟨δ0.set 3 (some d), .bool true, er3, ?_, fun v H17 s17 dv => ?_⟩
    · show (if [d].length = 1 then fn__law_looks_right [d] else none) = _
      rw [if_pos (show [d].length = 1 from rfl)]
      exact m_looks sd
    cases dv
    refine ⟨true, rfl, iteF ?_⟩
    have sm17 : Sm p H15 H17 := sm16.trans (Sm.of sm16.pool s17)
    refine ⟨.ref p, s6', x', s3, p, [x'], [d], rfl, rfl, .cons (dx16.on s17) .nil, ?_, sm17.pool, W__law_bent.up (m_bent sd) fun o _ lo v H18 s18 dv => ?_⟩
    · show (np d && true) = true
      rw [Sd_np sd]
      rfl
    refine ⟨[o.val], .bool true, .cons dv .nil, rfl, lo, fun v' H19 s19 dv' => ?_⟩
    cases dv'
    refine ⟨true, rfl, iteF ?_⟩
    have sm19 : Sm p H15 H19 := (sm17.trans s18).trans (Sm.of s18.pool s19)
    have dL : Dt K H19 (.ref L) (.list (ds ++ tail3)) := .lst (sm19.but _ _ hLp hL15) (DtAll.but sm15.pool sm19.but _ _ (np_all sdA) all15)
    have dx19 : Dt K H19 x' d := Dt.but sm15.pool sm19.but d x' (Sd_np sd) dx'
    have er7 : Er K H19 (σ.set 3 (some x')) (δ7 d (ds ++ tail3)) := er_one ((er0 l16).set 3 dx19) s7' dL
    refine ⟨δ7 d (ds ++ tail3), false, er7, eQ len6 (fun r hr => m_two sd (sdA r hr)), fun H20 s20 => iteF ?_⟩
    exact ⟨sm19.trans (Sm.of sm19.pool s20), lC, s0', s6', s7'⟩
  · obtain ⟨sm21, l21, z21, _, _⟩ := pv
    refine ⟨fun c ob e => ?_, l21, z21⟩
    have n8 : H8 p = none := t9.free np10
    have nc : c ≠ p := ne_of_none e n8
    exact sm21.but c ob nc (sm15.but c ob nc (s10 _ _ (t9 _ _ e)))
end
end Wm

namespace Wm
open PySem PySem.Spec PyProof.Rows L2
/-- a def by what the top has left of it -/
theorem dfn_mk {K : PySem.W.Frag} {h : Heap} {mg : Str → Option Value} {x : Str} {st : Stmt} {ps : List Str} {f : Addr} {od an : Option Addr} {sl : Array (Option Value)} {oc kV dc pm cd ct : Value} (X : K.In h) (G : h.Ns mainGlobals mg)
    (a : PySem.W.nsIn K mainGlobals x = some (some (.ref f))) (l : K.lookup f = some ⟨oc, od, .func (PySem.W.fnOf x x (defArgs st) (defBody st) (defScope st) .none kV dc pm an cd ct), sl⟩) (c : PySem.W.codeIn K cd x = true) (k : PySem.W.keepIn K (.ref f) = true)
    (b : ∀ (kV doc pm : Value) (an : Option Addr) (cdv ct : Value) (us : List Value), us.length = ps.length → bindArgs (PySem.W.fnOf x x (defArgs st) (defBody st) (defScope st) .none kV doc pm an cdv ct) ⟨us, []⟩ = pure (ps.zip us)) : Dfn K mg x st ps := by
  have F := fun_mk (st := st) l c k
  exact ⟨f, _, F, PySem.W.mg_of X G a, F.binds b⟩
theorem all_mk {l : PySem.W.OpenLaw} {w : World} {K : PySem.W.Frag} {h : Heap} {mg : Str → Option Value} {fa : Addr} (X : K.In h) (G : h.Ns mainGlobals mg) (hfa : mg "law" = some (.ref fa)) {f0 f1 f2 f3 f4 f5 f6 f7 f8 f9 f10 f11 f12 f13 f14 f15 f16 f17 f18 f19 f20 f21 f22 f23 f24 aw : Addr} {od0 od1 od2 od3 od4 od5 od6 od7 od8 od9 od10 od11 od12 od13 od14 od15 od16 od17 od18 od19 od20 od21 od22 od23 od24 an0 an1 an2 an3 an4 an5 an6 an7 an8 an9 an10 an11 an12 an13 an14 an15 an16 an17 an18 an19 an20 an21 an22 an23 an24 dw : Option Addr} {sl0 sl1 sl2 sl3 sl4 sl5 sl6 sl7 sl8 sl9 sl10 sl11 sl12 sl13 sl14 sl15 sl16 sl17 sl18 sl19 sl20 sl21 sl22 sl23 sl24 sw : Array (Option Value)} {oc0 oc1 oc2 oc3 oc4 oc5 oc6 oc7 oc8 oc9 oc10 oc11 oc12 oc13 oc14 oc15 oc16 oc17 oc18 oc19 oc20 oc21 oc22 oc23 oc24 kV0 kV1 kV2 kV3 kV4 kV5 kV6 kV7 kV8 kV9 kV10 kV11 kV12 kV13 kV14 kV15 kV16 kV17 kV18 kV19 kV20 kV21 kV22 kV23 kV24 dc0 dc1 dc2 dc3 dc4 dc5 dc6 dc7 dc8 dc9 dc10 dc11 dc12 dc13 dc14 dc15 dc16 dc17 dc18 dc19 dc20 dc21 dc22 dc23 dc24 pm0 pm1 pm2 pm3 pm4 pm5 pm6 pm7 pm8 pm9 pm10 pm11 pm12 pm13 pm14 pm15 pm16 pm17 pm18 pm19 pm20 pm21 pm22 pm23 pm24 cd0 cd1 cd2 cd3 cd4 cd5 cd6 cd7 cd8 cd9 cd10 cd11 cd12 cd13 cd14 cd15 cd16 cd17 cd18 cd19 cd20 cd21 cd22 cd23 cd24 ct0 ct1 ct2 ct3 ct4 ct5 ct6 ct7 ct8 ct9 ct10 ct11 ct12 ct13 ct14 ct15 ct16 ct17 ct18 ct19 ct20 ct21 ct22 ct23 ct24 : Value} {tm tg t1 t2 t3 t4 t5 : Tok} {nw : Nat}
    (a0 : PySem.W.nsIn K mainGlobals "is_word" = some (some (.ref f0))) (l0 : K.lookup f0 = some ⟨oc0, od0, .func (PySem.W.fnOf "is_word" "is_word" (defArgs st_is_word) (defBody st_is_word) (defScope st_is_word) .none kV0 dc0 pm0 an0 cd0 ct0), sl0⟩) (c0 : PySem.W.codeIn K cd0 "is_word" = true) (k0 : PySem.W.keepIn K (.ref f0) = true)
    (a1 : PySem.W.nsIn K mainGlobals "says" = some (some (.ref f1))) (l1 : K.lookup f1 = some ⟨oc1, od1, .func (PySem.W.fnOf "says" "says" (defArgs st_says) (defBody st_says) (defScope st_says) .none kV1 dc1 pm1 an1 cd1 ct1), sl1⟩) (c1 : PySem.W.codeIn K cd1 "says" = true) (k1 : PySem.W.keepIn K (.ref f1) = true)
    (a2 : PySem.W.nsIn K mainGlobals "is_whole" = some (some (.ref f2))) (l2 : K.lookup f2 = some ⟨oc2, od2, .func (PySem.W.fnOf "is_whole" "is_whole" (defArgs st_is_whole) (defBody st_is_whole) (defScope st_is_whole) .none kV2 dc2 pm2 an2 cd2 ct2), sl2⟩) (c2 : PySem.W.codeIn K cd2 "is_whole" = true) (k2 : PySem.W.keepIn K (.ref f2) = true)
    (a3 : PySem.W.nsIn K mainGlobals "is_whole_from" = some (some (.ref f3))) (l3 : K.lookup f3 = some ⟨oc3, od3, .func (PySem.W.fnOf "is_whole_from" "is_whole_from" (defArgs st_is_whole_from) (defBody st_is_whole_from) (defScope st_is_whole_from) .none kV3 dc3 pm3 an3 cd3 ct3), sl3⟩) (c3 : PySem.W.codeIn K cd3 "is_whole_from" = true) (k3 : PySem.W.keepIn K (.ref f3) = true)
    (a4 : PySem.W.nsIn K mainGlobals "is_number" = some (some (.ref f4))) (l4 : K.lookup f4 = some ⟨oc4, od4, .func (PySem.W.fnOf "is_number" "is_number" (defArgs st_is_number) (defBody st_is_number) (defScope st_is_number) .none kV4 dc4 pm4 an4 cd4 ct4), sl4⟩) (c4 : PySem.W.codeIn K cd4 "is_number" = true) (k4 : PySem.W.keepIn K (.ref f4) = true)
    (a5 : PySem.W.nsIn K mainGlobals "is_written" = some (some (.ref f5))) (l5 : K.lookup f5 = some ⟨oc5, od5, .func (PySem.W.fnOf "is_written" "is_written" (defArgs st_is_written) (defBody st_is_written) (defScope st_is_written) .none kV5 dc5 pm5 an5 cd5 ct5), sl5⟩) (c5 : PySem.W.codeIn K cd5 "is_written" = true) (k5 : PySem.W.keepIn K (.ref f5) = true)
    (a6 : PySem.W.nsIn K mainGlobals "is_lot" = some (some (.ref f6))) (l6 : K.lookup f6 = some ⟨oc6, od6, .func (PySem.W.fnOf "is_lot" "is_lot" (defArgs st_is_lot) (defBody st_is_lot) (defScope st_is_lot) .none kV6 dc6 pm6 an6 cd6 ct6), sl6⟩) (c6 : PySem.W.codeIn K cd6 "is_lot" = true) (k6 : PySem.W.keepIn K (.ref f6) = true)
    (a7 : PySem.W.nsIn K mainGlobals "is_place" = some (some (.ref f7))) (l7 : K.lookup f7 = some ⟨oc7, od7, .func (PySem.W.fnOf "is_place" "is_place" (defArgs st_is_place) (defBody st_is_place) (defScope st_is_place) .none kV7 dc7 pm7 an7 cd7 ct7), sl7⟩) (c7 : PySem.W.codeIn K cd7 "is_place" = true) (k7 : PySem.W.keepIn K (.ref f7) = true)
    (a8 : PySem.W.nsIn K mainGlobals "is_worth" = some (some (.ref f8))) (l8 : K.lookup f8 = some ⟨oc8, od8, .func (PySem.W.fnOf "is_worth" "is_worth" (defArgs st_is_worth) (defBody st_is_worth) (defScope st_is_worth) .none kV8 dc8 pm8 an8 cd8 ct8), sl8⟩) (c8 : PySem.W.codeIn K cd8 "is_worth" = true) (k8 : PySem.W.keepIn K (.ref f8) = true)
    (a9 : PySem.W.nsIn K mainGlobals "alike" = some (some (.ref f9))) (l9 : K.lookup f9 = some ⟨oc9, od9, .func (PySem.W.fnOf "alike" "alike" (defArgs st_alike) (defBody st_alike) (defScope st_alike) .none kV9 dc9 pm9 an9 cd9 ct9), sl9⟩) (c9 : PySem.W.codeIn K cd9 "alike" = true) (k9 : PySem.W.keepIn K (.ref f9) = true)
    (a10 : PySem.W.nsIn K mainGlobals "done" = some (some (.ref f10))) (l10 : K.lookup f10 = some ⟨oc10, od10, .func (PySem.W.fnOf "done" "done" (defArgs st_done) (defBody st_done) (defScope st_done) .none kV10 dc10 pm10 an10 cd10 ct10), sl10⟩) (c10 : PySem.W.codeIn K cd10 "done" = true) (k10 : PySem.W.keepIn K (.ref f10) = true)
    (a11 : PySem.W.nsIn K mainGlobals "reckoned" = some (some (.ref f11))) (l11 : K.lookup f11 = some ⟨oc11, od11, .func (PySem.W.fnOf "reckoned" "reckoned" (defArgs st_reckoned) (defBody st_reckoned) (defScope st_reckoned) .none kV11 dc11 pm11 an11 cd11 ct11), sl11⟩) (c11 : PySem.W.codeIn K cd11 "reckoned" = true) (k11 : PySem.W.keepIn K (.ref f11) = true)
    (a12 : PySem.W.nsIn K mainGlobals "within_bounds" = some (some (.ref f12))) (l12 : K.lookup f12 = some ⟨oc12, od12, .func (PySem.W.fnOf "within_bounds" "within_bounds" (defArgs st_within_bounds) (defBody st_within_bounds) (defScope st_within_bounds) .none kV12 dc12 pm12 an12 cd12 ct12), sl12⟩) (c12 : PySem.W.codeIn K cd12 "within_bounds" = true) (k12 : PySem.W.keepIn K (.ref f12) = true)
    (a13 : PySem.W.nsIn K mainGlobals "_law_pool" = some (some (.ref f13))) (l13 : K.lookup f13 = some ⟨oc13, od13, .func (PySem.W.fnOf "_law_pool" "_law_pool" (defArgs st__law_pool) (defBody st__law_pool) (defScope st__law_pool) .none kV13 dc13 pm13 an13 cd13 ct13), sl13⟩) (c13 : PySem.W.codeIn K cd13 "_law_pool" = true) (k13 : PySem.W.keepIn K (.ref f13) = true)
    (a14 : PySem.W.nsIn K mainGlobals "_law_take" = some (some (.ref f14))) (l14 : K.lookup f14 = some ⟨oc14, od14, .func (PySem.W.fnOf "_law_take" "_law_take" (defArgs st__law_take) (defBody st__law_take) (defScope st__law_take) .none kV14 dc14 pm14 an14 cd14 ct14), sl14⟩) (c14 : PySem.W.codeIn K cd14 "_law_take" = true) (k14 : PySem.W.keepIn K (.ref f14) = true)
    (a15 : PySem.W.nsIn K mainGlobals "_law_same" = some (some (.ref f15))) (l15 : K.lookup f15 = some ⟨oc15, od15, .func (PySem.W.fnOf "_law_same" "_law_same" (defArgs st__law_same) (defBody st__law_same) (defScope st__law_same) .none kV15 dc15 pm15 an15 cd15 ct15), sl15⟩) (c15 : PySem.W.codeIn K cd15 "_law_same" = true) (k15 : PySem.W.keepIn K (.ref f15) = true)
    (a16 : PySem.W.nsIn K mainGlobals "_law_two" = some (some (.ref f16))) (l16 : K.lookup f16 = some ⟨oc16, od16, .func (PySem.W.fnOf "_law_two" "_law_two" (defArgs st__law_two) (defBody st__law_two) (defScope st__law_two) .none kV16 dc16 pm16 an16 cd16 ct16), sl16⟩) (c16 : PySem.W.codeIn K cd16 "_law_two" = true) (k16 : PySem.W.keepIn K (.ref f16) = true)
    (a17 : PySem.W.nsIn K mainGlobals "_law_own_word" = some (some (.ref f17))) (l17 : K.lookup f17 = some ⟨oc17, od17, .func (PySem.W.fnOf "_law_own_word" "_law_own_word" (defArgs st__law_own_word) (defBody st__law_own_word) (defScope st__law_own_word) .none kV17 dc17 pm17 an17 cd17 ct17), sl17⟩) (c17 : PySem.W.codeIn K cd17 "_law_own_word" = true) (k17 : PySem.W.keepIn K (.ref f17) = true)
    (a18 : PySem.W.nsIn K mainGlobals "_law_own_number" = some (some (.ref f18))) (l18 : K.lookup f18 = some ⟨oc18, od18, .func (PySem.W.fnOf "_law_own_number" "_law_own_number" (defArgs st__law_own_number) (defBody st__law_own_number) (defScope st__law_own_number) .none kV18 dc18 pm18 an18 cd18 ct18), sl18⟩) (c18 : PySem.W.codeIn K cd18 "_law_own_number" = true) (k18 : PySem.W.keepIn K (.ref f18) = true)
    (a19 : PySem.W.nsIn K mainGlobals "_law_own_worth" = some (some (.ref f19))) (l19 : K.lookup f19 = some ⟨oc19, od19, .func (PySem.W.fnOf "_law_own_worth" "_law_own_worth" (defArgs st__law_own_worth) (defBody st__law_own_worth) (defScope st__law_own_worth) .none kV19 dc19 pm19 an19 cd19 ct19), sl19⟩) (c19 : PySem.W.codeIn K cd19 "_law_own_worth" = true) (k19 : PySem.W.keepIn K (.ref f19) = true)
    (a20 : PySem.W.nsIn K mainGlobals "_law_drawn" = some (some (.ref f20))) (l20 : K.lookup f20 = some ⟨oc20, od20, .func (PySem.W.fnOf "_law_drawn" "_law_drawn" (defArgs st__law_drawn) (defBody st__law_drawn) (defScope st__law_drawn) .none kV20 dc20 pm20 an20 cd20 ct20), sl20⟩) (c20 : PySem.W.codeIn K cd20 "_law_drawn" = true) (k20 : PySem.W.keepIn K (.ref f20) = true)
    (a21 : PySem.W.nsIn K mainGlobals "_law_bent" = some (some (.ref f21))) (l21 : K.lookup f21 = some ⟨oc21, od21, .func (PySem.W.fnOf "_law_bent" "_law_bent" (defArgs st__law_bent) (defBody st__law_bent) (defScope st__law_bent) .none kV21 dc21 pm21 an21 cd21 ct21), sl21⟩) (c21 : PySem.W.codeIn K cd21 "_law_bent" = true) (k21 : PySem.W.keepIn K (.ref f21) = true)
    (a22 : PySem.W.nsIn K mainGlobals "_law_looks_right" = some (some (.ref f22))) (l22 : K.lookup f22 = some ⟨oc22, od22, .func (PySem.W.fnOf "_law_looks_right" "_law_looks_right" (defArgs st__law_looks_right) (defBody st__law_looks_right) (defScope st__law_looks_right) .none kV22 dc22 pm22 an22 cd22 ct22), sl22⟩) (c22 : PySem.W.codeIn K cd22 "_law_looks_right" = true) (k22 : PySem.W.keepIn K (.ref f22) = true)
    (a23 : PySem.W.nsIn K mainGlobals "_law_two_right" = some (some (.ref f23))) (l23 : K.lookup f23 = some ⟨oc23, od23, .func (PySem.W.fnOf "_law_two_right" "_law_two_right" (defArgs st__law_two_right) (defBody st__law_two_right) (defScope st__law_two_right) .none kV23 dc23 pm23 an23 cd23 ct23), sl23⟩) (c23 : PySem.W.codeIn K cd23 "_law_two_right" = true) (k23 : PySem.W.keepIn K (.ref f23) = true)
    (a24 : PySem.W.nsIn K mainGlobals "law" = some (some (.ref f24))) (l24 : K.lookup f24 = some ⟨oc24, od24, .func (PySem.W.fnOf "law" "law" (defArgs st_law) (defBody st_law) (defScope st_law) .none kV24 dc24 pm24 an24 cd24 ct24), sl24⟩) (c24 : PySem.W.codeIn K cd24 "law" = true) (k24 : PySem.W.keepIn K (.ref f24) = true)
    (z_all : PySem.W.nsIn K mainGlobals "all" = some none)
    (z_bool : PySem.W.nsIn K mainGlobals "bool" = some none)
    (z_int : PySem.W.nsIn K mainGlobals "int" = some none)
    (z_isinstance : PySem.W.nsIn K mainGlobals "isinstance" = some none)
    (z_len : PySem.W.nsIn K mainGlobals "len" = some none)
    (z_max : PySem.W.nsIn K mainGlobals "max" = some none)
    (z_min : PySem.W.nsIn K mainGlobals "min" = some none)
    (z_range : PySem.W.nsIn K mainGlobals "range" = some none)
    (z_repr : PySem.W.nsIn K mainGlobals "repr" = some none)
    (z_str : PySem.W.nsIn K mainGlobals "str" = some none)
    (z_tuple : PySem.W.nsIn K mainGlobals "tuple" = some none)
    (z_zip : PySem.W.nsIn K mainGlobals "zip" = some none)
    (v_MOST : PySem.W.nsIn K mainGlobals "MOST" = some (some (.int 1000000000 tm))) (v_LONG : PySem.W.nsIn K mainGlobals "LONGEST_WORD" = some (some (.int 6 tg)))
    (v_WORDS : PySem.W.nsIn K mainGlobals "WORDS" = some (some (.ref aw))) (lw : K.lookup aw = some ⟨.type "tuple", dw, .seq #[.str "plus" t1, .str "minus" t2, .str "times" t3, .str "below" t4, .str "same" t5] nw, sw⟩) :
    ∃ fd : FuncData, (∀ (s : Shared) (v : Value), BindsTo s fd ⟨[v], []⟩ [("_law_script", v)]) ∧ ∀ base : Heap, K.In base → base.Ns mainGlobals mg → FnG l.prog w K mg base 6 fa fd ["_law_script"] (spLaw K) := by
  have e := hfa.symm.trans (PySem.W.mg_of X G a24)
  cases e
  have z := fun {x : Str} (h : PySem.W.nsIn K mainGlobals x = some none) => PySem.W.mg_none_of X G h
  have T : Fx K mg := ⟨z z_all, z z_bool, z z_int, z z_isinstance, z z_len, z z_max, z z_min, z z_range, z z_repr, z z_str, z z_tuple, z z_zip, ⟨_, PySem.W.mg_of X G v_MOST⟩, ⟨_, PySem.W.mg_of X G v_LONG⟩, ⟨aw, PySem.W.mg_of X G v_WORDS, fun H => .tup (vs := [.str "plus", .str "minus", .str "times", .str "below", .str "same"]) (.inr ⟨_, _, _, lw, rfl, rfl, by show 5 ≤ sizeLine; decide, .cons ⟨_, rfl⟩ (.cons ⟨_, rfl⟩ (.cons ⟨_, rfl⟩ (.cons ⟨_, rfl⟩ (.cons ⟨_, rfl⟩ .nil))))⟩) (.cons (.str _) (.cons (.str _) (.cons (.str _) (.cons (.str _) (.cons (.str _) .nil)))))⟩⟩
  have D_is_word : Dfn K mg "is_word" st_is_word ["thing"] := dfn_mk X G a0 l0 c0 k0 fun _ _ _ _ _ _ us hl => match us, hl with | [_], _ => rfl
  have D_says : Dfn K mg "says" st_says ["thing", "word"] := dfn_mk X G a1 l1 c1 k1 fun _ _ _ _ _ _ us hl => match us, hl with | [_, _], _ => rfl
  have D_is_whole : Dfn K mg "is_whole" st_is_whole ["thing"] := dfn_mk X G a2 l2 c2 k2 fun _ _ _ _ _ _ us hl => match us, hl with | [_], _ => rfl
  have D_is_whole_from : Dfn K mg "is_whole_from" st_is_whole_from ["thing", "least"] := dfn_mk X G a3 l3 c3 k3 fun _ _ _ _ _ _ us hl => match us, hl with | [_, _], _ => rfl
  have D_is_number : Dfn K mg "is_number" st_is_number ["thing"] := dfn_mk X G a4 l4 c4 k4 fun _ _ _ _ _ _ us hl => match us, hl with | [_], _ => rfl
  have D_is_written : Dfn K mg "is_written" st_is_written ["thing"] := dfn_mk X G a5 l5 c5 k5 fun _ _ _ _ _ _ us hl => match us, hl with | [_], _ => rfl
  have D_is_lot : Dfn K mg "is_lot" st_is_lot ["thing"] := dfn_mk X G a6 l6 c6 k6 fun _ _ _ _ _ _ us hl => match us, hl with | [_], _ => rfl
  have D_is_place : Dfn K mg "is_place" st_is_place ["thing"] := dfn_mk X G a7 l7 c7 k7 fun _ _ _ _ _ _ us hl => match us, hl with | [_], _ => rfl
  have D_is_worth : Dfn K mg "is_worth" st_is_worth ["thing"] := dfn_mk X G a8 l8 c8 k8 fun _ _ _ _ _ _ us hl => match us, hl with | [_], _ => rfl
  have D_alike : Dfn K mg "alike" st_alike ["one", "other"] := dfn_mk X G a9 l9 c9 k9 fun _ _ _ _ _ _ us hl => match us, hl with | [_, _], _ => rfl
  have D_done : Dfn K mg "done" st_done ["word", "one", "other"] := dfn_mk X G a10 l10 c10 k10 fun _ _ _ _ _ _ us hl => match us, hl with | [_, _, _], _ => rfl
  have D_reckoned : Dfn K mg "reckoned" st_reckoned ["word", "one", "other"] := dfn_mk X G a11 l11 c11 k11 fun _ _ _ _ _ _ us hl => match us, hl with | [_, _, _], _ => rfl
  have D_within_bounds : Dfn K mg "within_bounds" st_within_bounds ["number"] := dfn_mk X G a12 l12 c12 k12 fun _ _ _ _ _ _ us hl => match us, hl with | [_], _ => rfl
  have D__law_pool : Dfn K mg "_law_pool" st__law_pool ["_law_script", "_law_k"] := dfn_mk X G a13 l13 c13 k13 fun _ _ _ _ _ _ us hl => match us, hl with | [_, _], _ => rfl
  have D__law_take : Dfn K mg "_law_take" st__law_take ["_law_pool_here", "_law_size"] := dfn_mk X G a14 l14 c14 k14 fun _ _ _ _ _ _ us hl => match us, hl with | [_, _], _ => rfl
  have D__law_same : Dfn K mg "_law_same" st__law_same ["_law_one_now", "_law_other_now"] := dfn_mk X G a15 l15 c15 k15 fun _ _ _ _ _ _ us hl => match us, hl with | [_, _], _ => rfl
  have D__law_two : Dfn K mg "_law_two" st__law_two ["_law_word_now", "_law_one_now", "_law_other_now"] := dfn_mk X G a16 l16 c16 k16 fun _ _ _ _ _ _ us hl => match us, hl with | [_, _, _], _ => rfl
  have D__law_own_word : Dfn K mg "_law_own_word" st__law_own_word ["_law_odd_one"] := dfn_mk X G a17 l17 c17 k17 fun _ _ _ _ _ _ us hl => match us, hl with | [_], _ => rfl
  have D__law_own_number : Dfn K mg "_law_own_number" st__law_own_number ["_law_odd_one", "_law_low"] := dfn_mk X G a18 l18 c18 k18 fun _ _ _ _ _ _ us hl => match us, hl with | [_, _], _ => rfl
  have D__law_own_worth : Dfn K mg "_law_own_worth" st__law_own_worth ["_law_odd_one"] := dfn_mk X G a19 l19 c19 k19 fun _ _ _ _ _ _ us hl => match us, hl with | [_], _ => rfl
  have D__law_drawn : Dfn K mg "_law_drawn" st__law_drawn ["_law_pool_here"] := dfn_mk X G a20 l20 c20 k20 fun _ _ _ _ _ _ us hl => match us, hl with | [_], _ => rfl
  have D__law_bent : Dfn K mg "_law_bent" st__law_bent ["_law_pool_here", "_law_worth_now"] := dfn_mk X G a21 l21 c21 k21 fun _ _ _ _ _ _ us hl => match us, hl with | [_, _], _ => rfl
  have D__law_looks_right : Dfn K mg "_law_looks_right" st__law_looks_right ["_law_odd_one"] := dfn_mk X G a22 l22 c22 k22 fun _ _ _ _ _ _ us hl => match us, hl with | [_], _ => rfl
  have D__law_two_right : Dfn K mg "_law_two_right" st__law_two_right ["_law_left", "_law_right"] := dfn_mk X G a23 l23 c23 k23 fun _ _ _ _ _ _ us hl => match us, hl with | [_, _], _ => rfl
  have FL := fun_mk (st := st_law) l24 c24 k24
  refine ⟨PySem.W.fnOf "law" "law" (defArgs st_law) (defBody st_law) (defScope st_law) .none kV24 dc24 pm24 an24 cd24 ct24, fun s v => .of_eq rfl, fun base kb gb => ?_⟩
  have C_is_word := ok_is_word (P := l.prog) (w := w) (base := base) T D_is_word
  have C_says := ok_says (P := l.prog) (w := w) (base := base) T D_says
  have C_is_whole := ok_is_whole (P := l.prog) (w := w) (base := base) T D_is_whole
  have C_is_whole_from := ok_is_whole_from (P := l.prog) (w := w) (base := base) T D_is_whole_from C_is_whole
  have C_is_number := ok_is_number (P := l.prog) (w := w) (base := base) T D_is_number C_is_whole
  have C_is_written := ok_is_written (P := l.prog) (w := w) (base := base) T D_is_written
  have C_is_lot := ok_is_lot (P := l.prog) (w := w) (base := base) T D_is_lot C_is_whole_from C_says
  have C_is_place := ok_is_place (P := l.prog) (w := w) (base := base) T D_is_place C_is_whole_from C_is_word C_says
  have C_is_worth := ok_is_worth (P := l.prog) (w := w) (base := base) T D_is_worth C_is_lot C_is_place C_is_written
  have C_alike := ok_alike (P := l.prog) (w := w) (base := base) T D_alike
  have C_reckoned := ok_reckoned (P := l.prog) (w := w) (base := base) T D_reckoned
  have C_within_bounds := ok_within_bounds (P := l.prog) (w := w) (base := base) T D_within_bounds C_is_number
  have C__law_same := ok__law_same (P := l.prog) (w := w) (base := base) T D__law_same
  have C__law_two := ok__law_two (P := l.prog) (w := w) (base := base) T D__law_two C__law_same
  have C__law_own_word := ok__law_own_word (P := l.prog) (w := w) (base := base) T D__law_own_word
  have C__law_own_number := ok__law_own_number (P := l.prog) (w := w) (base := base) T D__law_own_number
  have C__law_own_worth := ok__law_own_worth (P := l.prog) (w := w) (base := base) T D__law_own_worth C__law_own_number C__law_own_word
  have C__law_looks_right := ok__law_looks_right (P := l.prog) (w := w) (base := base) T D__law_looks_right C__law_own_word C__law_own_worth C_is_word C_is_worth
  have C_done := ok_done (P := l.prog) (w := w) (base := base) T D_done C_alike C_is_number C_reckoned C_within_bounds
  have C__law_two_right := ok__law_two_right (P := l.prog) (w := w) (base := base) T D__law_two_right C__law_same C__law_two C_alike C_done
  obtain ⟨q1, p1, U1, g1, b1⟩ := D__law_pool.ex
  obtain ⟨q2, p2, U2, g2, b2⟩ := D__law_take.ex
  obtain ⟨q3, p3, U3, g3, b3⟩ := D__law_drawn.ex
  obtain ⟨q4, p4, U4, g4, b4⟩ := D__law_bent.ex
  have TK : FnOk l.prog w K mg base CX0 1 q2 p2 ["_law_pool_here", "_law_size"] spTake := ok_take U2
  exact ok_law T C__law_looks_right C__law_two_right ⟨q1, p1, ok_pool T U1, g1, U1.kp, b1⟩ ⟨q3, p3, ok__law_drawn T TK g2 U2.kp b2 U3, g3, U3.kp, b3⟩ ⟨q4, p4, ok__law_bent T TK g2 U2.kp b2 U4, g4, U4.kp, b4⟩ FL
end Wm
open PySem PySem.W PyProof.Rows
set_option maxHeartbeats 0 in
theorem PySem.Challenge.cw_waitedmeets_k01_worths_of_all_sorts_holds : PySem.Challenge.rw_waitedmeets_k01_worths_of_all_sorts.Holds := by
  w_on; o_law; k_head; (case hw => w_witness2)
  k_fill
  refine Wm.walk_G (l := PySem.Challenge.rw_waitedmeets_k01_worths_of_all_sorts) (n := 63) (k := 6) (x := "_law_script") (sp := fun w => Wm.spLaw _) rfl (by decide) rfl ⟨rfl, by decide, by decide⟩ (fun w h Y => PySem.W.kIn_of Y) ?F (fun _ _ a ns hl _ hS => ⟨a, ns, rfl, hS, hl, fun _ => rfl⟩)
  case F =>
    intro w mg fa h KX G hmg
    refine' Wm.all_mk KX G hmg ?a0 ?l0 ?c0 ?k0 ?a1 ?l1 ?c1 ?k1 ?a2 ?l2 ?c2 ?k2 ?a3 ?l3 ?c3 ?k3 ?a4 ?l4 ?c4 ?k4 ?a5 ?l5 ?c5 ?k5 ?a6 ?l6 ?c6 ?k6 ?a7 ?l7 ?c7 ?k7 ?a8 ?l8 ?c8 ?k8 ?a9 ?l9 ?c9 ?k9 ?a10 ?l10 ?c10 ?k10 ?a11 ?l11 ?c11 ?k11 ?a12 ?l12 ?c12 ?k12 ?a13 ?l13 ?c13 ?k13 ?a14 ?l14 ?c14 ?k14 ?a15 ?l15 ?c15 ?k15 ?a16 ?l16 ?c16 ?k16 ?a17 ?l17 ?c17 ?k17 ?a18 ?l18 ?c18 ?k18 ?a19 ?l19 ?c19 ?k19 ?a20 ?l20 ?c20 ?k20 ?a21 ?l21 ?c21 ?k21 ?a22 ?l22 ?c22 ?k22 ?a23 ?l23 ?c23 ?k23 ?a24 ?l24 ?c24 ?k24 ?z_all ?z_bool ?z_int ?z_isinstance ?z_len ?z_max ?z_min ?z_range ?z_repr ?z_str ?z_tuple ?z_zip ?v_MOST ?v_LONG ?v_WORDS ?lw
    (case a0 => k_is)
    (case l0 => k_is)
    (case c0 => k_is)
    (case k0 => k_is)
    (case a1 => k_is)
    (case l1 => k_is)
    (case c1 => k_is)
    (case k1 => k_is)
    (case a2 => k_is)
    (case l2 => k_is)
    (case c2 => k_is)
    (case k2 => k_is)
    (case a3 => k_is)
    (case l3 => k_is)
    (case c3 => k_is)
    (case k3 => k_is)
    (case a4 => k_is)
    (case l4 => k_is)
    (case c4 => k_is)
    (case k4 => k_is)
    (case a5 => k_is)
    (case l5 => k_is)
    (case c5 => k_is)
    (case k5 => k_is)
    (case a6 => k_is)
    (case l6 => k_is)
    (case c6 => k_is)
    (case k6 => k_is)
    (case a7 => k_is)
    (case l7 => k_is)
    (case c7 => k_is)
    (case k7 => k_is)
    (case a8 => k_is)
    (case l8 => k_is)
    (case c8 => k_is)
    (case k8 => k_is)
    (case a9 => k_is)
    (case l9 => k_is)
    (case c9 => k_is)
    (case k9 => k_is)
    (case a10 => k_is)
    (case l10 => k_is)
    (case c10 => k_is)
    (case k10 => k_is)
    (case a11 => k_is)
    (case l11 => k_is)
    (case c11 => k_is)
    (case k11 => k_is)
    (case a12 => k_is)
    (case l12 => k_is)
    (case c12 => k_is)
    (case k12 => k_is)
    (case a13 => k_is)
    (case l13 => k_is)
    (case c13 => k_is)
    (case k13 => k_is)
    (case a14 => k_is)
    (case l14 => k_is)
    (case c14 => k_is)
    (case k14 => k_is)
    (case a15 => k_is)
    (case l15 => k_is)
    (case c15 => k_is)
    (case k15 => k_is)
    (case a16 => k_is)
    (case l16 => k_is)
    (case c16 => k_is)
    (case k16 => k_is)
    (case a17 => k_is)
    (case l17 => k_is)
    (case c17 => k_is)
    (case k17 => k_is)
    (case a18 => k_is)
    (case l18 => k_is)
    (case c18 => k_is)
    (case k18 => k_is)
    (case a19 => k_is)
    (case l19 => k_is)
    (case c19 => k_is)
    (case k19 => k_is)
    (case a20 => k_is)
    (case l20 => k_is)
    (case c20 => k_is)
    (case k20 => k_is)
    (case a21 => k_is)
    (case l21 => k_is)
    (case c21 => k_is)
    (case k21 => k_is)
    (case a22 => k_is)
    (case l22 => k_is)
    (case c22 => k_is)
    (case k22 => k_is)
    (case a23 => k_is)
    (case l23 => k_is)
    (case c23 => k_is)
    (case k23 => k_is)
    (case a24 => k_is)
    (case l24 => k_is)
    (case c24 => k_is)
    (case k24 => k_is)
    (case z_all => k_is)
    (case z_bool => k_is)
    (case z_int => k_is)
    (case z_isinstance => k_is)
    (case z_len => k_is)
    (case z_max => k_is)
    (case z_min => k_is)
    (case z_range => k_is)
    (case z_repr => k_is)
    (case z_str => k_is)
    (case z_tuple => k_is)
    (case z_zip => k_is)
    (case v_MOST => k_is)
    (case v_LONG => k_is)
    (case v_WORDS => k_is)
    (case lw => k_is)
